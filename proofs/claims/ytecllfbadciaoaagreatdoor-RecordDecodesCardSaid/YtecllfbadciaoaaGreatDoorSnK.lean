/-
  The walks of the reference's fine, Valid and ValidChanges (conditions: digests of 32 bytes, at most 1000000 elements).
-/
import Derived.Test.YtecllfbadciaoaaGreatDoorZip
import Derived.Test.YtecllfbadciaoaaGreatDoorQ7
set_option maxRecDepth 100000
set_option maxHeartbeats 8000000
namespace Go.Proofs.YtecllfbadciaoaaGreatDoor
open Go.RowKit
theorem wpList_load_mid_g {P : Program} {ops : Array Oper} {rest : List Oper} {o : Oper} {a : Act} {w : World} {Q : Exit → Act → World → Prop} (hw : Region.wanted o (yielded ops a.tmps) = true) (ty : TypeId) (x : Operand) (ho : o.op = .load ty x)
 (b k : Nat) (hx : a.eval x = .pointer (some ⟨b, k, none⟩)) (cs : List Value) (d : TypeDesc) (hc : w.rangeAt b k cs)
 (hu : P.underlying ty = some d) (hd : d.isRow = true) (hi : (P.info? ty).map (·.size) = some cs.length)
 (h : wpList P ops Q rest (a.put o.dst (.agg cs.toArray)) w) : wpList P ops Q (o :: rest) a w :=
 wpList_step fun K hK => by rw [if_pos hw]; exact wp_load_mid ty x ho b k hx cs d hc hu hd hi (hK _ _ h)
theorem fine_any (x : En) (w : World) (hx : OkE x) :
 Calls Tryz.prog 91 #[.agg (enL x).toArray] w fun e w' => e = .returned (.bool (!badE x)) ∧ Below w.heap.size w w' := by
 have hp := (EnB.new w x).p
 have HN := zh (EnB.new w x)
 have HB := zh ((Below.refl w.heap.size w).alloc (Nat.le_refl _) (.cells (enL x).toArray 82))
 have HO := zh (info_d hx)
 have hs : w.heap.size < (w.alloc (.cells (enL x).toArray 82)).heap.size := by simp
 have he := neqZ x.d hx.1
 clear hx
 obtain ⟨c, hc⟩ : ∃ c, pathB x.p = c := ⟨_, rfl⟩
 have hP := fun w' => refPath_any x.p w'
 rw [hc] at hP
 have HP := zh hP; have HC := zh hc; clear hP hc
 cases c
 ·have HZ : Hid ((!badE x) = false) := by show _ = _; unfold badE; rw [HC.out]; simp
  go_enter Tryz.func91, Tryz.ntmps91
  go_wp2_with fail
  refine (HP.out _).mono ?_
  rintro e w1 ⟨rfl, hb1⟩
  have HB1 := zh hb1; clear hb1
  go_wp2
  go_ret
  exact ⟨ret_boolP HZ.out.symm, HB.out.trans (HB1.out.mono HB.out.size)⟩
 ·have HZ : Hid ((!badE x) = !decide (x.d = zed)) := by show _ = _; unfold badE; rw [HC.out]; simp
  go_enter Tryz.func91, Tryz.ntmps91
  go_wp2_with fail
  refine (HP.out _).mono ?_
  rintro e w1 ⟨rfl, hb1⟩
  have HR := zh (HN.out.below hb1 hs).d
  have HB1 := zh hb1; clear hb1
  go_wp2_with (refine wpList_load_mid_g (by rfl) 80 _ rfl w.heap.size 1 rfl _ _ HR.out Tryz.underlying80 rfl HO.out ?_)
  go_ret
  exact ⟨ret_boolP HZ.out.symm, HB.out.trans (HB1.out.mono HB.out.size)⟩
theorem refValid_any (sp : Option Addr) (n cap : Nat) (l : List En) (w : World) (hl : EnsIn w w.heap.size sp n cap l) (hn : n ≤ 1000000) :
 Calls Tryz.prog 55 #[.slice sp n cap] w fun e w' => e = .returned (.bool (vldE l)) ∧ Below w.heap.size w w' := by
 have HL := zh hl; clear hl
 by_cases h64 : 64 < n
 ·have hd : decide ((n : Int) > 64) = true := by simp; omega
  have HV : Hid (vldE l = false) := by show _ = _; unfold vldE; rw [decide_eq_false (by rw [HL.out.len]; omega)]; rfl
  go_enter Tryz.func55, Tryz.ntmps55
  go_wp2_with fail
  go_ret
  exact ⟨ret_boolP HV.out.symm, Below.refl _ _⟩
 have hd : decide ((n : Int) > 64) = false := by simp; omega
 have HV : Hid (vldE l = (!l.any badE && ascB En.p l)) := by show _ = _; unfold vldE; rw [decide_eq_true (by rw [HL.out.len]; omega)]; rfl
 go_enter Tryz.func55, Tryz.ntmps55
 go_wp2_with fail
 clear hd
 go_loopw [3] (fun i wr => ∃ k : Nat, k ≤ n ∧ i = .int .i64 k ∧ Hid ((l.take k).any badE = false) ∧ Hid (upto En.p l (k - 1) = true) ∧ Hid (Below w.heap.size w wr)) (fun i _ => n - (intOf i).toNat)
 case atStart => exact ⟨0, Nat.zero_le _, rfl, rfl, rfl, Below.refl _ _⟩
 case round =>
 obtain ⟨k, hk, rfl, HA, HU, hbe⟩ := hrel
 by_cases hlt : k < n
 ·obtain ⟨x, hx⟩ : ∃ x, l[k]? = some x := ⟨l[k]'(by have := HL.out.len; omega), List.getElem?_eq_getElem _⟩
  obtain ⟨b, off, rfl, hbB, hcap, -⟩ := HL.out.cells (by omega)
  have hxm := List.mem_of_getElem? hx
  have hF := fun w' => fine_any x w' (HL.out.ok x hxm)
  have HIX := zh (info_e (HL.out.ok x hxm))
  have HT : Hid ((l.take (k + 1)).any badE = ((l.take k).any badE || badE x)) := by show _ = _; rw [List.take_add_one, List.any_append, hx]; simp
  have HM : Hid (badE x = true → vldE l = false) := fun h => by rw [HV.out, List.any_eq_true.2 ⟨x, hxm, h⟩]; rfl
  obtain ⟨c, hc⟩ : ∃ c, badE x = c := ⟨_, rfl⟩
  rw [hc] at hF
  have HF := zh hF; have HC := zh hc; clear hF hc
  have hbd := hbe.out.drew
  cases c
  ·by_cases hk0 : k = 0
   ·have hd0 : decide ((k : Int) > 0) = false := by simp; omega
    have hd0a : decide (0 < k) = false := by rw [hk0]; rfl
    have hd0b : ¬ 0 < k := by omega
    have hd : decide ((k : Int) < (n : Int)) = true := by simp; omega
    have p1 : (0 : Int) ≤ (k : Int) := by omega
    have p2 : (k : Int) < (n : Int) := by omega
    have q1 : IntKind.i64.wrap (k : Int) = (k : Int) := IntWalk.i64_in _ (by omega)
    have HALL : Hid (∀ w', Below w.heap.size w w' → w'.rangeAt b (off + k * 33) (enL x) ∧ True) := fun w' hb => ⟨range_belowS (HL.out.at hx).2 hb hbB, trivial⟩
    have HU2 : Hid (upto En.p l (k + 1 - 1) = true) := by show _ = _; rw [hk0]; rfl
    clear hx hxm hk0
    go_wp2_with fail
    refine wp_region_held_drew (S := fun w' => w'.rangeAt b (off + k * 33) (enL x) ∧ True) (by kernel_rfl) (HALL.out _ hbd) (fun hHeld => ?_)
    refine zv 0 rfl ?_
    refine zv 1 rfl ?_
    refine zv 2 rfl ?_
    refine' zk 3 rfl (v := _) (yieldsIf_load_mid (by rfl) _ _ rfl _ _ rfl _ _ ?hS3n4 Tryz.underlying82 rfl HIX.out) ?rest3n4
    case hS3n4 =>
     intro w' hSw
     exact hSw.1
    try simp only [Act.put, zuA, zuB, zuC, zuD, zuY, zuF]
    refine zr 4 rfl (fun K hK => ?_)
    go_simp
    with_reducible refine (HF.out _).mono ?_
    rintro e w1 ⟨rfl, hb1⟩
    go_wp2_with fail
    refine hK.out _ _ (HALL.out _ (hbd.trans (hb1.mono hbd.size))) fun _ => ?_; clear hK K
    try simp only [Act.put, zuA, zuB, zuC, zuD, zuY, zuF]
    refine zv 5 rfl ?_
    refine zv 6 rfl ?_
    refine zv 7 rfl ?_
    refine zv 8 rfl ?_
    refine zv 9 rfl ?_
    refine zk 10 rfl (v := undef) (.inr ⟨by rfl, rfl⟩) ?_; try simp only [Act.put, zuA, zuB, zuC, zuD, zuY, zuF]
    refine zk 11 rfl (v := undef) (.inr ⟨by rfl, rfl⟩) ?_; try simp only [Act.put, zuA, zuB, zuC, zuD, zuY, zuF]
    refine zk 12 rfl (v := undef) (.inr ⟨by rfl, rfl⟩) ?_; try simp only [Act.put, zuA, zuB, zuC, zuD, zuY, zuF]
    refine zk 13 rfl (v := undef) (.inr ⟨by rfl, rfl⟩) ?_; try simp only [Act.put, zuA, zuB, zuC, zuD, zuY, zuF]
    refine zk 14 rfl (v := undef) (.inr ⟨by rfl, rfl⟩) ?_; try simp only [Act.put, zuA, zuB, zuC, zuD, zuY, zuF]
    refine zk 15 rfl (v := undef) (.inr ⟨by rfl, rfl⟩) ?_; try simp only [Act.put, zuA, zuB, zuC, zuD, zuY, zuF]
    refine zk 16 rfl (v := undef) (.inr ⟨by rfl, rfl⟩) ?_; try simp only [Act.put, zuA, zuB, zuC, zuD, zuY, zuF]
    refine zk 17 rfl (v := undef) (.inr ⟨by rfl, rfl⟩) ?_; try simp only [Act.put, zuA, zuB, zuC, zuD, zuY, zuF]
    refine zk 18 rfl (v := undef) (.inr ⟨by rfl, rfl⟩) ?_; try simp only [Act.put, zuA, zuB, zuC, zuD, zuY, zuF]
    refine zk 19 rfl (v := undef) (.inr ⟨by rfl, rfl⟩) ?_; try simp only [Act.put, zuA, zuB, zuC, zuD, zuY, zuF]
    refine zk 20 rfl (v := undef) (.inr ⟨by rfl, rfl⟩) ?_; try simp only [Act.put, zuA, zuB, zuC, zuD, zuY, zuF]
    refine zk 21 rfl (v := undef) (.inr ⟨by rfl, rfl⟩) ?_; try simp only [Act.put, zuA, zuB, zuC, zuD, zuY, zuF]
    refine zv 22 rfl ?_
    refine zv 23 rfl ?_
    refine zd ?_ _
    have HB1 := zh (hbd.trans (hb1.mono hbd.size))
    clear hb1 hbd hHeld
    go_wp2_with fail
    go_roundw
    case rel => exact ⟨k + 1, by omega, by go_num, by show _ = _; rw [HT.out, HA.out, HC.out]; rfl, HU2, HB1⟩
    case measure => simp [intOf]; omega
   ·obtain ⟨m, rfl⟩ : ∃ m, k = m + 1 := ⟨k - 1, by omega⟩
    obtain ⟨y, hy⟩ : ∃ y, l[m]? = some y := ⟨l[m]'(by have := HL.out.len; omega), List.getElem?_eq_getElem _⟩
    have HS := zh (upto_succ (f := En.p) hy hx)
    have hd0 : decide ((m : Int) + 1 > 0) = true := decide_eq_true (by omega)
    have hd : decide ((m : Int) + 1 < (n : Int)) = true := by simp; omega
    have p1 : (0 : Int) ≤ (m : Int) := by omega
    have p2 : (m : Int) < (n : Int) := by omega
    have p3 : (0 : Int) ≤ (m : Int) + 1 := by omega
    have p4 : (m : Int) + 1 < (n : Int) := by omega
    have q1 : (m : Int) + 1 - 1 = (m : Int) := by omega
    have q2 : ((m : Int) + 1).toNat = m + 1 := by omega
    have q3 : IntKind.i64.wrap ((m : Int) + 1 - 1) = (m : Int) := by rw [q1]; exact IntWalk.i64_in _ (by omega)
    have q4 : IntKind.i64.wrap (m : Int) = (m : Int) := IntWalk.i64_in _ (by omega)
    have q5 : IntKind.i64.wrap ((m : Int) + 1) = (m : Int) + 1 := IntWalk.i64_in _ (by omega)
    have HALL : Hid (∀ w', Below w.heap.size w w' → w'.rangeAt b (off + (m + 1) * 33) (enL x) ∧ w'.rangeAt b (off + m * 33) (enL y)) := fun w' hb => ⟨range_belowS (HL.out.at hx).2 hb hbB, range_belowS (HL.out.at hy).2 hb hbB⟩
    obtain ⟨c, hc⟩ : ∃ c, Op.bytesLess y.p.toList x.p.toList = c := ⟨_, rfl⟩
    have HP : Hid (pls y.p x.p = c) := hc
    clear hx hy hxm hk0
    go_wp2_with fail
    refine wp_region_held_drew (S := fun w' => w'.rangeAt b (off + (m + 1) * 33) (enL x) ∧ w'.rangeAt b (off + m * 33) (enL y)) (by kernel_rfl) (HALL.out _ hbd) (fun hHeld => ?_)
    refine zv 0 rfl ?_
    refine zv 1 rfl ?_
    refine zv 2 rfl ?_
    refine' zk 3 rfl (v := _) (yieldsIf_load_mid (by rfl) _ _ rfl _ _ rfl _ _ ?hS3n27 Tryz.underlying82 rfl HIX.out) ?rest3n27
    case hS3n27 =>
     intro w' hSw
     exact hSw.1
    try simp only [Act.put, zuA, zuB, zuC, zuD, zuY, zuF]
    refine zr 4 rfl (fun K hK => ?_)
    go_simp
    with_reducible refine (HF.out _).mono ?_
    rintro e w1 ⟨rfl, hb1⟩
    go_wp2_with fail
    refine hK.out _ _ (HALL.out _ (hbd.trans (hb1.mono hbd.size))) fun _ => ?_; clear hK K
    try simp only [Act.put, zuA, zuB, zuC, zuD, zuY, zuF]
    refine zv 5 rfl ?_
    refine zv 6 rfl ?_
    refine zv 7 rfl ?_
    refine zv 8 rfl ?_
    refine zv 9 rfl ?_
    refine zv 10 rfl ?_
    refine zv 11 rfl ?_
    refine zv 12 rfl ?_
    refine zv 13 rfl ?_
    refine zv 14 rfl ?_
    refine zx 15 rfl (v := ?_) ?_ ?_; rotate_left
    ·intro w' hSw; have h1 := rngE_p hSw.2; go_simp; try with_reducible rfl
    refine zv 16 rfl ?_
    refine zv 17 rfl ?_
    refine zv 18 rfl ?_
    refine zv 19 rfl ?_
    refine zx 20 rfl (v := ?_) ?_ ?_; rotate_left
    ·intro w' hSw; have h1 := rngE_p hSw.1; go_simp; try with_reducible rfl
    refine zv 21 rfl ?_
    refine zv 22 rfl ?_
    refine zv 23 rfl ?_
    refine zd ?_ _
    have HB1 := zh (hbd.trans (hb1.mono hbd.size))
    clear hb1 hbd hHeld hc
    have HM2 : Hid (upto En.p l (m + 1) = c) := by
     have h1 := HU.out
     show _ = _; rw [HS.out, show upto En.p l m = true from h1, HP.out]; rfl
    cases c
    ·have HZ : Hid (vldE l = false) := by show _ = _; rw [HV.out, show ascB En.p l = false from upto_false HM2.out (by have := HL.out.len; omega), Bool.and_false]
     go_wp2_with fail
     go_ret
     exact ⟨ret_boolP HZ.out.symm, HB1.out⟩
    ·go_wp2_with fail
     go_roundw
     case rel => exact ⟨m + 1 + 1, by omega, by go_num, by show _ = _; rw [HT.out, HA.out, HC.out]; rfl, HM2, HB1⟩
     case measure => simp [intOf]; omega
  ·have hd : decide ((k : Int) < (n : Int)) = true := by simp; omega
   have p1 : (0 : Int) ≤ (k : Int) := by omega
   have p2 : (k : Int) < (n : Int) := by omega
   have q1 : IntKind.i64.wrap (k : Int) = (k : Int) := IntWalk.i64_in _ (by omega)
   have HALL : Hid (∀ w', Below w.heap.size w w' → w'.rangeAt b (off + k * 33) (enL x) ∧ True) := fun w' hb => ⟨range_belowS (HL.out.at hx).2 hb hbB, trivial⟩
   clear hx hxm
   go_wp2_with fail
   refine wp_region_held_drew (S := fun w' => w'.rangeAt b (off + k * 33) (enL x) ∧ True) (by kernel_rfl) (HALL.out _ hbd) (fun hHeld => ?_)
   refine zv 0 rfl ?_
   refine zv 1 rfl ?_
   refine zv 2 rfl ?_
   refine' zk 3 rfl (v := _) (yieldsIf_load_mid (by rfl) _ _ rfl _ _ rfl _ _ ?hS3n50 Tryz.underlying82 rfl HIX.out) ?rest3n50
   case hS3n50 =>
    intro w' hSw
    exact hSw.1
   try simp only [Act.put, zuA, zuB, zuC, zuD, zuY, zuF]
   refine zr 4 rfl (fun K hK => ?_)
   go_simp
   with_reducible refine (HF.out _).mono ?_
   rintro e w1 ⟨rfl, hb1⟩
   go_wp2_with fail
   refine hK.out _ _ (HALL.out _ (hbd.trans (hb1.mono hbd.size))) fun _ => ?_; clear hK K
   try simp only [Act.put, zuA, zuB, zuC, zuD, zuY, zuF]
   refine zv 5 rfl ?_
   refine zv 6 rfl ?_
   refine zk 7 rfl (v := undef) (.inr ⟨by rfl, rfl⟩) ?_; try simp only [Act.put, zuA, zuB, zuC, zuD, zuY, zuF]
   refine zk 8 rfl (v := undef) (.inr ⟨by rfl, rfl⟩) ?_; try simp only [Act.put, zuA, zuB, zuC, zuD, zuY, zuF]
   refine zk 9 rfl (v := undef) (.inr ⟨by rfl, rfl⟩) ?_; try simp only [Act.put, zuA, zuB, zuC, zuD, zuY, zuF]
   refine zk 10 rfl (v := undef) (.inr ⟨by rfl, rfl⟩) ?_; try simp only [Act.put, zuA, zuB, zuC, zuD, zuY, zuF]
   refine zk 11 rfl (v := undef) (.inr ⟨by rfl, rfl⟩) ?_; try simp only [Act.put, zuA, zuB, zuC, zuD, zuY, zuF]
   refine zk 12 rfl (v := undef) (.inr ⟨by rfl, rfl⟩) ?_; try simp only [Act.put, zuA, zuB, zuC, zuD, zuY, zuF]
   refine zk 13 rfl (v := undef) (.inr ⟨by rfl, rfl⟩) ?_; try simp only [Act.put, zuA, zuB, zuC, zuD, zuY, zuF]
   refine zk 14 rfl (v := undef) (.inr ⟨by rfl, rfl⟩) ?_; try simp only [Act.put, zuA, zuB, zuC, zuD, zuY, zuF]
   refine zk 15 rfl (v := undef) (.inr ⟨by rfl, rfl⟩) ?_; try simp only [Act.put, zuA, zuB, zuC, zuD, zuY, zuF]
   refine zk 16 rfl (v := undef) (.inr ⟨by rfl, rfl⟩) ?_; try simp only [Act.put, zuA, zuB, zuC, zuD, zuY, zuF]
   refine zk 17 rfl (v := undef) (.inr ⟨by rfl, rfl⟩) ?_; try simp only [Act.put, zuA, zuB, zuC, zuD, zuY, zuF]
   refine zk 18 rfl (v := undef) (.inr ⟨by rfl, rfl⟩) ?_; try simp only [Act.put, zuA, zuB, zuC, zuD, zuY, zuF]
   refine zk 19 rfl (v := undef) (.inr ⟨by rfl, rfl⟩) ?_; try simp only [Act.put, zuA, zuB, zuC, zuD, zuY, zuF]
   refine zk 20 rfl (v := undef) (.inr ⟨by rfl, rfl⟩) ?_; try simp only [Act.put, zuA, zuB, zuC, zuD, zuY, zuF]
   refine zk 21 rfl (v := undef) (.inr ⟨by rfl, rfl⟩) ?_; try simp only [Act.put, zuA, zuB, zuC, zuD, zuY, zuF]
   refine zk 22 rfl (v := undef) (.inr ⟨by rfl, rfl⟩) ?_; try simp only [Act.put, zuA, zuB, zuC, zuD, zuY, zuF]
   refine zv 23 rfl ?_
   refine zd ?_ _
   have HB1 := zh (hbd.trans (hb1.mono hbd.size))
   clear hb1 hbd hHeld
   go_wp2_with fail
   go_ret
   exact ⟨ret_boolP (HM.out HC.out).symm, HB1.out⟩
 ·obtain rfl : k = n := by omega
  have hd : decide ((k : Int) < (k : Int)) = false := by simp
  have HZ : Hid (vldE l = true) := by
   show _ = _
   have h1 := HA.out
   rw [List.take_of_length_le (by rw [HL.out.len]; exact Nat.le_refl _)] at h1
   rw [HV.out, h1]
   show upto En.p l (l.length - 1) = true
   rw [HL.out.len]; exact HU.out
  go_wp2_with fail
  go_ret
  exact ⟨ret_boolP HZ.out.symm, hbe.out⟩
end Go.Proofs.YtecllfbadciaoaaGreatDoor
