/-
  Envelopes: the walks of validSignatures and Valid (conditions: at most 1000000 signatures; the table of constants reads as it is laid).
-/
import Derived.Test.YtcligodahogpkaaGreatDoorZip
import Derived.Test.YtcligodahogpkaaGreatDoorH2
import Derived.Test.YtcligodahogpkaaGreatDoorH1
set_option maxRecDepth 100000
set_option maxHeartbeats 8000000
namespace Go.Proofs.YtcligodahogpkaaGreatDoor
open Go.RowKit Go.Proofs.YtcligodahogpkaaGreatDoor.One
structure EnvIn (w : World) (B : Nat) (p s : Value) (b : List UInt8) (l : List Sg) : Prop where
 pay : ∃ sp n cap, p = .slice sp n cap ∧ BSrc w B sp n cap b ∧ (sp = none → cap = 0)
 sgs : ∃ sp n cap, s = .slice sp n cap ∧ SgsIn w B sp n cap l ∧ (sp = none → cap = 0)
def uV (p : Pg) : Bool := lC p.h p.a p.l.length p.q.length
theorem BE {w : World} {B : Nat} {x : Sg} (h : SgD w B x) : lC x.h x.a x.n x.m = uV (pg x) := by
 unfold uV pg; rw [show x.n = x.l.length from h.c.len.symm, show x.m = x.q.length from h.p.len.symm]
def rD (L : List Pg) (i : Nat) : Bool := match L[i]? with
 | some x => uV x && (match i with
   | 0 => true
   | j + 1 => match L[j]? with
     | some y => dls (idP y) (idP x)
     | none => true)
 | none => true
def vsB (L : List Pg) : Bool := (List.range L.length).all (rD L)
theorem EU {L : List Pg} {i : Nat} (hi : i < L.length) (h : rD L i = false) : vsB L = false := by
 unfold vsB; rw [List.all_eq_false]; exact ⟨i, List.mem_range.2 hi, by rw [h]; simp⟩
theorem AU {L : List Pg} {n : Nat} (hn : L.length = n) (h : ∀ j, j < n → rD L j = true) : vsB L = true := by
 unfold vsB; rw [List.all_eq_true]; exact fun i hi => h i (by have := List.mem_range.1 hi; omega)
theorem sU {l : List Sg} {x : Sg} (hx : l[0]? = some x) : rD (l.map pg) 0 = uV (pg x) := by
 unfold rD; rw [List.getElem?_map, hx]; simp
theorem sV {l : List Sg} {k : Nat} {x y : Sg} (hx : l[k + 1]? = some x) (hy : l[k]? = some y) : rD (l.map pg) (k + 1) = (uV (pg x) && dls (idP (pg y)) (idP (pg x))) := by
 unfold rD; rw [List.getElem?_map, hx]; simp only [Option.map_some, List.getElem?_map, hy]
theorem xA {l : List Sg} {k : Nat} {x : Sg} (hx : l[k]? = some x) (h : uV (pg x) = false) : rD (l.map pg) k = false := by
 unfold rD; rw [List.getElem?_map, hx]; simp [h]
theorem rE (sp : Option Addr) (n cap : Nat) (l : List Sg) (w : World) (hl : SgsIn w w.heap.size sp n cap l) (hn : n ≤ 1000000) (hk : KayIn w) (hk0 : 1 < w.heap.size) :
 Calls Tryz.prog 50 #[.slice sp n cap] w fun e w' => e = .returned (.bool (vsB (l.map pg))) ∧ Below w.heap.size w w' := by
 have HL := zh hl; have HK := zh hk
 clear hl hk
 go_enter Tryz.func50, Tryz.ntmps50
 go_wp2_with fail
 go_loopw [7] (fun i wr => ∃ k : Nat, k ≤ n ∧ i = .int .i64 k ∧ Hid (∀ j, j < k → rD (l.map pg) j = true) ∧ Hid (Below w.heap.size w wr)) (fun i _ => n - (intOf i).toNat)
 case atStart => exact ⟨0, Nat.zero_le _, rfl, fun j hj => absurd hj (Nat.not_lt_zero _), Below.refl _ _⟩
 case round =>
  obtain ⟨k, hk, rfl, HA, hbe⟩ := hrel
  by_cases hlt : k < n
  ·have hd : decide ((k : Int) < (n : Int)) = true := by simp; omega
   obtain ⟨b, off, rfl, hbB, hcap, hr⟩ := HL.out.cells (by omega)
   have hkl : k < l.length := by rw [HL.out.len]; exact hlt
   obtain ⟨x, hx⟩ : ∃ x, l[k]? = some x := ⟨l[k], List.getElem?_eq_getElem hkl⟩
   have hxm : x ∈ l := List.mem_of_getElem? hx
   have HR := zh (aA (hr k x hx) hbe.out hbB)
   have HOX := zh (HL.out.ok x hxm)
   have HI := zh (fM HOX.out); have HIP := zh (iG HOX.out); have HIS := zh (rR x)
   have HX := zh hx
   have HRR := zh hr
   have MP := zh hbB
   have HSQ := zh (BE (HL.out.dat x hxm))
   have p1 : (0 : Int) ≤ (k : Int) := by omega
   have p2 : (k : Int) < (n : Int) := by omega
   have p3 : (n : Int) ≤ (cap : Int) := by omega
   have HZG := zh (heap_alloc_new wr (.cells zG.toArray 62))
   clear hr hx hxm hkl hbB
   go_upto_region 4 with (first
    | (refine wpList_load_mid rfl 62 _ rfl b (off + k * 20) rfl _ _ HR.out Tryz.underlying62 rfl HI.out ?_)
      | (refine wpList_store_row rfl 62 _ _ rfl wr.heap.size _ rfl rfl 62 _ HZG.out (eM HOX.out) (jZ HOX.out) (eU x) ?_; rw [bW]; generalize hw1 : World.alloc wr _ = w1; have HG1 : Hid (GB w1 wr.heap.size x) := (by rw [← hw1]; exact GB.new wr x); have HB1 : Hid (Below wr.heap.size wr w1) := (by rw [← hw1]; exact (Below.refl _ _).alloc (Nat.le_refl _) _); have hs1 : w1.heap.size = wr.heap.size + 1 := (by rw [← hw1]; simp); clear hw1))
   obtain ⟨B, hBe⟩ : ∃ B, B = w1.heap.size := ⟨_, rfl⟩
   have HSB : Hid (Below B w1 w1) := Below.refl _ _
   have HLT : Hid (wr.heap.size < B) := by show _ < _; omega
   have HLB : Hid (b < B) := by show _ < _; have := MP.out; have := hbe.out.size; omega
   have HBW : Hid (Below w.heap.size w w1) := hbe.out.trans (HB1.out.mono hbe.out.size)
   have hwB : w.heap.size ≤ B := by have := hbe.out.size; omega
   clear HZG
   obtain ⟨c, hc⟩ : ∃ c, uV (pg x) = c := ⟨_, rfl⟩
   have HCS : Hid (∀ w', Calls Tryz.prog 87 #[.agg (sgP x).toArray, .agg (sgS x).toArray] w' fun e w'' => e = .returned (.bool c) ∧ Below w'.heap.size w' w'') := fun w' => by
    have h := mE x.h x.r x.a x.sp x.n x.c x.sq x.m x.d w' HOX.out
    rw [HSQ.out, hc] at h
    exact h
   have HC := zh hc
   clear hc HSQ
   cases c
   ·-- A
    refine wp_region_held_drew (S := fun w' => Below B w1 w') (by kernel_rfl) HSB.out.drew (fun hHeld => ?_)
    refine zv 0 rfl ?_
    refine' zk 1 rfl (v := _) (yieldsIf_load_mid (by rfl) _ _ rfl _ _ rfl _ _ ?hS1n2 Tryz.underlying56 rfl HIP.out) ?rest1n2
    case hS1n2 =>
     intro w' hSw
     exact aA HG1.out.p hSw HLT.out
    try simp only [Act.put, zA, zB, zC, zD, zE, zF]
    refine zv 2 rfl ?_
    refine' zk 3 rfl (v := _) (yieldsIf_load_mid (by rfl) _ _ rfl _ _ rfl _ _ ?hS3n4 Tryz.underlying60 rfl HIS.out) ?rest3n4
    case hS3n4 =>
     intro w' hSw
     exact aA (HG1.out.s HOX.out) hSw HLT.out
    try simp only [Act.put, zA, zB, zC, zD, zE, zF]
    refine zr 4 rfl (fun K hK => ?_)
    go_simp
    with_reducible refine (HCS.out _).mono ?_
    rintro e v1 ⟨rfl, hb⟩
    have HSV : Hid (Below B w1 v1) := (HSB.out.drew).trans (hb.mono (by have := HSB.out.size; show B ≤ w1.heap.size; omega))
    clear hb
    go_wp2_with fail
    refine hK.out _ _ HSV.out fun _ => ?_; clear hK K
    try simp only [Act.put, zA, zB, zC, zD, zE, zF]
    refine zv 5 rfl ?_
    refine zv 6 rfl ?_
    refine zk 7 rfl (v := undef) (.inr ⟨by rfl, rfl⟩) ?_; try simp only [Act.put, zA, zB, zC, zD, zE, zF]
    refine zk 8 rfl (v := undef) (.inr ⟨by rfl, rfl⟩) ?_; try simp only [Act.put, zA, zB, zC, zD, zE, zF]
    refine zk 9 rfl (v := undef) (.inr ⟨by rfl, rfl⟩) ?_; try simp only [Act.put, zA, zB, zC, zD, zE, zF]
    refine zk 10 rfl (v := undef) (.inr ⟨by rfl, rfl⟩) ?_; try simp only [Act.put, zA, zB, zC, zD, zE, zF]
    refine zk 11 rfl (v := undef) (.inr ⟨by rfl, rfl⟩) ?_; try simp only [Act.put, zA, zB, zC, zD, zE, zF]
    refine zk 12 rfl (v := undef) (.inr ⟨by rfl, rfl⟩) ?_; try simp only [Act.put, zA, zB, zC, zD, zE, zF]
    refine zk 13 rfl (v := undef) (.inr ⟨by rfl, rfl⟩) ?_; try simp only [Act.put, zA, zB, zC, zD, zE, zF]
    refine zk 14 rfl (v := undef) (.inr ⟨by rfl, rfl⟩) ?_; try simp only [Act.put, zA, zB, zC, zD, zE, zF]
    refine zk 15 rfl (v := undef) (.inr ⟨by rfl, rfl⟩) ?_; try simp only [Act.put, zA, zB, zC, zD, zE, zF]
    refine zk 16 rfl (v := undef) (.inr ⟨by rfl, rfl⟩) ?_; try simp only [Act.put, zA, zB, zC, zD, zE, zF]
    refine zk 17 rfl (v := undef) (.inr ⟨by rfl, rfl⟩) ?_; try simp only [Act.put, zA, zB, zC, zD, zE, zF]
    refine zk 18 rfl (v := undef) (.inr ⟨by rfl, rfl⟩) ?_; try simp only [Act.put, zA, zB, zC, zD, zE, zF]
    refine zv 19 rfl ?_
    refine zd ?_ _
    have HNO := zh (EU (i := k) (by rw [List.length_map]; have := HL.out.len; omega) (xA HX.out HC.out))
    go_wp2_with fail
    go_ret
    exact ⟨by rw [HNO.out]; rfl, (hbe.out.trans (HB1.out.mono (hbe.out.size))).trans (HSV.out.mono (by have := hbe.out.size; omega))⟩
   ·by_cases hk0' : k = 0
    ·subst hk0'
     have hd0 : decide ((0 : Int) > 0) = false := by simp
     refine wp_region_held_drew (S := fun w' => Below B w1 w') (by kernel_rfl) HSB.out.drew (fun hHeld => ?_)
     refine zv 0 rfl ?_
     refine' zk 1 rfl (v := _) (yieldsIf_load_mid (by rfl) _ _ rfl _ _ rfl _ _ ?hS1n21 Tryz.underlying56 rfl HIP.out) ?rest1n21
     case hS1n21 =>
      intro w' hSw
      exact aA HG1.out.p hSw HLT.out
     try simp only [Act.put, zA, zB, zC, zD, zE, zF]
     refine zv 2 rfl ?_
     refine' zk 3 rfl (v := _) (yieldsIf_load_mid (by rfl) _ _ rfl _ _ rfl _ _ ?hS3n23 Tryz.underlying60 rfl HIS.out) ?rest3n23
     case hS3n23 =>
      intro w' hSw
      exact aA (HG1.out.s HOX.out) hSw HLT.out
     try simp only [Act.put, zA, zB, zC, zD, zE, zF]
     refine zr 4 rfl (fun K hK => ?_)
     go_simp
     with_reducible refine (HCS.out _).mono ?_
     rintro e v1 ⟨rfl, hb⟩
     have HSV : Hid (Below B w1 v1) := (HSB.out.drew).trans (hb.mono (by have := HSB.out.size; show B ≤ w1.heap.size; omega))
     clear hb
     go_wp2_with fail
     refine hK.out _ _ HSV.out fun _ => ?_; clear hK K
     try simp only [Act.put, zA, zB, zC, zD, zE, zF]
     refine zv 5 rfl ?_
     refine zv 6 rfl ?_
     refine zv 7 rfl ?_
     refine zv 8 rfl ?_
     refine zv 9 rfl ?_
     refine zk 10 rfl (v := undef) (.inr ⟨by rfl, rfl⟩) ?_; try simp only [Act.put, zA, zB, zC, zD, zE, zF]
     refine zk 11 rfl (v := undef) (.inr ⟨by rfl, rfl⟩) ?_; try simp only [Act.put, zA, zB, zC, zD, zE, zF]
     refine zk 12 rfl (v := undef) (.inr ⟨by rfl, rfl⟩) ?_; try simp only [Act.put, zA, zB, zC, zD, zE, zF]
     refine zk 13 rfl (v := undef) (.inr ⟨by rfl, rfl⟩) ?_; try simp only [Act.put, zA, zB, zC, zD, zE, zF]
     refine zk 14 rfl (v := undef) (.inr ⟨by rfl, rfl⟩) ?_; try simp only [Act.put, zA, zB, zC, zD, zE, zF]
     refine zk 15 rfl (v := undef) (.inr ⟨by rfl, rfl⟩) ?_; try simp only [Act.put, zA, zB, zC, zD, zE, zF]
     refine zk 16 rfl (v := undef) (.inr ⟨by rfl, rfl⟩) ?_; try simp only [Act.put, zA, zB, zC, zD, zE, zF]
     refine zk 17 rfl (v := undef) (.inr ⟨by rfl, rfl⟩) ?_; try simp only [Act.put, zA, zB, zC, zD, zE, zF]
     refine zv 18 rfl ?_
     refine zv 19 rfl ?_
     refine zd ?_ _
     go_wp2_with fail
     go_roundw
     case rel => exact ⟨0 + 1, by omega, by go_num, fun j hj => (by rcases Nat.lt_succ_iff_lt_or_eq.1 hj with h | rfl; exact HA.out j h; exact (by rw [sU HX.out]; exact HC.out)), (hbe.out.trans (HB1.out.mono (hbe.out.size))).trans (HSV.out.mono (by have := hbe.out.size; omega))⟩
     case measure => simp [intOf] <;> omega
    ·obtain ⟨m, rfl⟩ : ∃ m, k = m + 1 := ⟨k - 1, by omega⟩
     have hml : m < l.length := by rw [HL.out.len]; omega
     obtain ⟨y, hy⟩ : ∃ y, l[m]? = some y := ⟨l[m], List.getElem?_eq_getElem hml⟩
     have hym : y ∈ l := List.mem_of_getElem? hy
     have HOY := zh (HL.out.ok y hym)
     have HIY := zh (fM HOY.out)
     have HRY : Hid (w1.rangeAt b (off + m * 20) (bD y)) := aA (aA (HRR.out m y hy) hbe.out MP.out) HB1.out (by have := MP.out; have := hbe.out.size; omega)
     have HSU := zh (sV HX.out hy)
     have HCK : Hid (∀ w', Below B w1 w' → Calls Tryz.prog 60 #[.agg (bD y).toArray, .agg (bD x).toArray] w' fun e w'' => e = .returned (.int .i64 (AN (idP (pg y)) (idP (pg x)))) ∧ Below w'.heap.size w' w'') := fun w' hb => gK y x w' HOY.out HOX.out (HK.out.below (HBW.out.trans (hb.mono hwB)) hk0) (by have := HBW.out.size; have := hb.size; omega)
     have HGE := zh (LV (iQ (pg y)) (iQ (pg x)))
     clear hy hym hml
     have hd0 : decide (((m + 1 : Nat) : Int) > 0) = true := decide_eq_true (by omega)
     have q1 : (0 : Int) ≤ ((m + 1 : Nat) : Int) - 1 := by omega
     have q2 : ((m + 1 : Nat) : Int) - 1 < (n : Int) := by omega
     have q3 : IntKind.i64.wrap (((m + 1 : Nat) : Int) - 1) = (m : Int) := by rw [IntKind.wrap_i64]; omega
     have q4 : (((m + 1 : Nat) : Int) - 1).toNat = m := by omega
     have q5 : (0 : Int) ≤ (m : Int) := by omega
     have q7 : IntKind.i64.wrap (m : Int) = (m : Int) := by rw [IntKind.wrap_i64]; omega
     have q6 : (m : Int) < (n : Int) := by omega
     generalize AN (idP (pg y)) (idP (pg x)) = z at *
     cases hdl : dls (idP (pg y)) (idP (pg x))
     ·have hz : decide (z ≥ 0) = true := by rw [HGE.out, hdl]; rfl
      have HWY : Hid (rD (l.map pg) (m + 1) = false) := by show _ = _; rw [HSU.out, hdl]; simp
      clear hdl
      refine wp_region_held_drew (S := fun w' => Below B w1 w') (by kernel_rfl) HSB.out.drew (fun hHeld => ?_)
      refine zv 0 rfl ?_
      refine' zk 1 rfl (v := _) (yieldsIf_load_mid (by rfl) _ _ rfl _ _ rfl _ _ ?hS1n40 Tryz.underlying56 rfl HIP.out) ?rest1n40
      case hS1n40 =>
       intro w' hSw
       exact aA HG1.out.p hSw HLT.out
      try simp only [Act.put, zA, zB, zC, zD, zE, zF]
      refine zv 2 rfl ?_
      refine' zk 3 rfl (v := _) (yieldsIf_load_mid (by rfl) _ _ rfl _ _ rfl _ _ ?hS3n42 Tryz.underlying60 rfl HIS.out) ?rest3n42
      case hS3n42 =>
       intro w' hSw
       exact aA (HG1.out.s HOX.out) hSw HLT.out
      try simp only [Act.put, zA, zB, zC, zD, zE, zF]
      refine zr 4 rfl (fun K hK => ?_)
      go_simp
      with_reducible refine (HCS.out _).mono ?_
      rintro e v1 ⟨rfl, hb⟩
      have HSV : Hid (Below B w1 v1) := (HSB.out.drew).trans (hb.mono (by have := HSB.out.size; show B ≤ w1.heap.size; omega))
      clear hb
      go_wp2_with fail
      refine hK.out _ _ HSV.out fun _ => ?_; clear hK K
      try simp only [Act.put, zA, zB, zC, zD, zE, zF]
      refine zv 5 rfl ?_
      refine zv 6 rfl ?_
      refine zv 7 rfl ?_
      refine zv 8 rfl ?_
      refine zv 9 rfl ?_
      refine zv 10 rfl ?_
      refine zv 11 rfl ?_
      refine zv 12 rfl ?_
      refine zv 13 rfl ?_
      refine' zk 14 rfl (v := _) (yieldsIf_load_mid (by rfl) _ _ rfl _ _ rfl _ _ ?hS14n52 Tryz.underlying62 rfl HIY.out) ?rest14n52
      case hS14n52 =>
       intro w' hSw
       exact aA HRY.out (hSw) HLB.out
      try simp only [Act.put, zA, zB, zC, zD, zE, zF]
      refine' zk 15 rfl (v := _) (yieldsIf_load_mid (by rfl) _ _ rfl _ _ rfl _ _ ?hS15n53 Tryz.underlying62 rfl HI.out) ?rest15n53
      case hS15n53 =>
       intro w' hSw
       exact aA HG1.out.all hSw HLT.out
      try simp only [Act.put, zA, zB, zC, zD, zE, zF]
      refine zr 16 rfl (fun K hK => ?_)
      go_simp
      with_reducible refine (HCK.out _ HSV.out).mono ?_
      rintro e v2 ⟨rfl, hb⟩
      have PH : Hid (Below B w1 v2) := HSV.out.trans (hb.mono (by have := HSV.out.size; omega))
      clear hb
      go_wp2_with fail
      refine hK.out _ _ PH.out fun _ => ?_; clear hK K
      try simp only [Act.put, zA, zB, zC, zD, zE, zF]
      refine zv 17 rfl ?_
      refine zv 18 rfl ?_
      refine zv 19 rfl ?_
      refine zd ?_ _
      have HNO := zh (EU (i := m + 1) (by rw [List.length_map]; have := HL.out.len; omega) HWY.out)
      go_wp2_with fail
      go_ret
      exact ⟨by rw [HNO.out]; rfl, (hbe.out.trans (HB1.out.mono (hbe.out.size))).trans (PH.out.mono (by have := hbe.out.size; omega))⟩
     ·have hz : decide (z ≥ 0) = false := by rw [HGE.out, hdl]; rfl
      have HWY : Hid (rD (l.map pg) (m + 1) = true) := by show _ = _; rw [HSU.out, hdl, HC.out]; rfl
      clear hdl
      refine wp_region_held_drew (S := fun w' => Below B w1 w') (by kernel_rfl) HSB.out.drew (fun hHeld => ?_)
      refine zv 0 rfl ?_
      refine' zk 1 rfl (v := _) (yieldsIf_load_mid (by rfl) _ _ rfl _ _ rfl _ _ ?hS1n58 Tryz.underlying56 rfl HIP.out) ?rest1n58
      case hS1n58 =>
       intro w' hSw
       exact aA HG1.out.p hSw HLT.out
      try simp only [Act.put, zA, zB, zC, zD, zE, zF]
      refine zv 2 rfl ?_
      refine' zk 3 rfl (v := _) (yieldsIf_load_mid (by rfl) _ _ rfl _ _ rfl _ _ ?hS3n60 Tryz.underlying60 rfl HIS.out) ?rest3n60
      case hS3n60 =>
       intro w' hSw
       exact aA (HG1.out.s HOX.out) hSw HLT.out
      try simp only [Act.put, zA, zB, zC, zD, zE, zF]
      refine zr 4 rfl (fun K hK => ?_)
      go_simp
      with_reducible refine (HCS.out _).mono ?_
      rintro e v1 ⟨rfl, hb⟩
      have HSV : Hid (Below B w1 v1) := (HSB.out.drew).trans (hb.mono (by have := HSB.out.size; show B ≤ w1.heap.size; omega))
      clear hb
      go_wp2_with fail
      refine hK.out _ _ HSV.out fun _ => ?_; clear hK K
      try simp only [Act.put, zA, zB, zC, zD, zE, zF]
      refine zv 5 rfl ?_
      refine zv 6 rfl ?_
      refine zv 7 rfl ?_
      refine zv 8 rfl ?_
      refine zv 9 rfl ?_
      refine zv 10 rfl ?_
      refine zv 11 rfl ?_
      refine zv 12 rfl ?_
      refine zv 13 rfl ?_
      refine' zk 14 rfl (v := _) (yieldsIf_load_mid (by rfl) _ _ rfl _ _ rfl _ _ ?hS14n70 Tryz.underlying62 rfl HIY.out) ?rest14n70
      case hS14n70 =>
       intro w' hSw
       exact aA HRY.out (hSw) HLB.out
      try simp only [Act.put, zA, zB, zC, zD, zE, zF]
      refine' zk 15 rfl (v := _) (yieldsIf_load_mid (by rfl) _ _ rfl _ _ rfl _ _ ?hS15n71 Tryz.underlying62 rfl HI.out) ?rest15n71
      case hS15n71 =>
       intro w' hSw
       exact aA HG1.out.all hSw HLT.out
      try simp only [Act.put, zA, zB, zC, zD, zE, zF]
      refine zr 16 rfl (fun K hK => ?_)
      go_simp
      with_reducible refine (HCK.out _ HSV.out).mono ?_
      rintro e v2 ⟨rfl, hb⟩
      have PH : Hid (Below B w1 v2) := HSV.out.trans (hb.mono (by have := HSV.out.size; omega))
      clear hb
      go_wp2_with fail
      refine hK.out _ _ PH.out fun _ => ?_; clear hK K
      try simp only [Act.put, zA, zB, zC, zD, zE, zF]
      refine zv 17 rfl ?_
      refine zv 18 rfl ?_
      refine zv 19 rfl ?_
      refine zd ?_ _
      go_wp2_with fail
      go_roundw
      case rel => exact ⟨(m + 1) + 1, by omega, by go_num, fun j hj => (by rcases Nat.lt_succ_iff_lt_or_eq.1 hj with h | rfl; exact HA.out j h; exact HWY.out), (hbe.out.trans (HB1.out.mono (hbe.out.size))).trans (PH.out.mono (by have := hbe.out.size; omega))⟩
      case measure => simp [intOf] <;> omega
  ·obtain rfl : k = n := by omega
   have hd : decide ((k : Int) < (k : Int)) = false := by simp
   go_wp2_with fail
   go_ret
   exact ⟨by rw [AU (by rw [List.length_map]; exact HL.out.len) HA.out]; rfl, hbe.out⟩
def eY (t : ByteArray) (b : List UInt8) (L : List Pg) : Bool := nmB t.data.toList && (decide (b.length ≤ 32768) && (decide (L.length ≤ 8) && vsB L))
theorem fN (t : ByteArray) (sp : Option Addr) (n cap : Nat) (b : List UInt8) (sq : Option Addr) (m c2 : Nat) (l : List Sg) (w : World) (ht : t.size ≤ maxLen) (hp : BSrc w w.heap.size sp n cap b) (hl : SgsIn w w.heap.size sq m c2 l) (hk : KayIn w) (hk0 : 1 < w.heap.size) :
 Calls Tryz.prog 20 #[.agg (enA t (.slice sp n cap) (.slice sq m c2))] w fun e w' => e = .returned (.bool (eY t b (l.map pg))) ∧ Below w.heap.size w w' := by
 have HP := zh hp.len; have HL := zh hl; have HK := zh hk
 have HE := zh (heap_alloc_new w (.cells (enA t (.slice sp n cap) (.slice sq m c2)) 25))
 clear hp hl hk
 have HV : Hid (eY t b (l.map pg) = (nmB t.data.toList && (decide (n ≤ 32768) && (decide (m ≤ 8) && vsB (l.map pg))))) := by show _ = _; unfold eY; rw [HP.out, List.length_map, HL.out.len]
 rw [HV.out]
 obtain ⟨f, hf⟩ : ∃ f, nmB t.data.toList = f := ⟨_, rfl⟩
 obtain ⟨g, hg⟩ : ∃ g, vsB (l.map pg) = g := ⟨_, rfl⟩
 rw [hf, hg]
 have HF := zh hf; have HG := zh hg
 clear hf hg HV
 go_enter Tryz.func20, Tryz.ntmps20
 go_upto_region 1 with fail
 generalize hw0 : World.alloc w _ = w0
 have HE0 : Hid (w0.heap[w.heap.size]? = some (.cells (enA t (.slice sp n cap) (.slice sq m c2)) 25 (0, 0))) := by rw [← hw0]; exact HE.out
 have HB0 : Hid (Below w.heap.size w w0) := by rw [← hw0]; exact (Below.refl _ _).alloc (Nat.le_refl _) _
 have hs0 : w0.heap.size = w.heap.size + 1 := by rw [← hw0]; simp
 clear hw0 HE
 have c0 := GN HE0.out; have c1 := pU HE0.out; have cz := kP HE0.out
 have HCN : Hid (Calls Tryz.prog 49 #[.string t] w0 fun e w' => e = .returned (.bool f) ∧ w0 = w') := by rw [← HF.out]; exact ID t w0 ht
 have HCV : Hid (m ≤ 8 → Calls Tryz.prog 50 #[.slice sq m c2] w0 fun e w'' => e = .returned (.bool g) ∧ Below w0.heap.size w0 w'') := fun h8 => by rw [← HG.out]; exact rE sq m c2 l w0 (HL.out.up HB0.out (Nat.le_refl _)) (by omega) (HK.out.below HB0.out hk0) (by omega)
 cases f
 ·go_wp2_with fail
  refine HCN.out.mono ?_
  rintro e w' ⟨rfl, rfl⟩
  go_wp2_with fail
  go_ret
  exact ⟨rfl, HB0.out⟩
 ·by_cases h1 : n ≤ 32768
  ·have hd1 : decide ((n : Int) ≤ 32768) = true := by simp; omega
   have HE1 : Hid (decide (n ≤ 32768) = true) := decide_eq_true h1
   by_cases h2 : m ≤ 8
   ·have hd2 : decide ((m : Int) ≤ 8) = true := by simp; omega
    have HE2 : Hid (decide (m ≤ 8) = true) := decide_eq_true h2
    have HCV2 := zh (HCV.out h2)
    clear HCV
    go_wp2_with fail
    refine HCN.out.mono ?_
    rintro e w' ⟨rfl, rfl⟩
    go_wp2_with fail
    refine HCV2.out.mono ?_
    rintro e w' ⟨rfl, hb⟩
    have HB1 := zh hb; clear hb
    go_wp2_with fail
    go_ret
    exact ⟨by rw [HE1.out, HE2.out]; rfl, HB0.out.trans (HB1.out.mono (by omega))⟩
   ·have hd2 : decide ((m : Int) ≤ 8) = false := by simp; omega
    have HE2 : Hid (decide (m ≤ 8) = false) := decide_eq_false h2
    clear HCV
    go_wp2_with fail
    refine HCN.out.mono ?_
    rintro e w' ⟨rfl, rfl⟩
    go_wp2_with fail
    go_ret
    exact ⟨by rw [HE1.out, HE2.out]; rfl, HB0.out⟩
  ·have hd1 : decide ((n : Int) ≤ 32768) = false := by simp; omega
   have HE1 : Hid (decide (n ≤ 32768) = false) := decide_eq_false h1
   clear HCV
   go_wp2_with fail
   refine HCN.out.mono ?_
   rintro e w' ⟨rfl, rfl⟩
   go_wp2_with fail
   go_ret
   exact ⟨by rw [HE1.out]; rfl, HB0.out⟩
theorem BSrc.more {w : World} {B B' : Nat} {sp : Option Addr} {n cap : Nat} {l : List UInt8} (h : BSrc w B sp n cap l) (hB : B ≤ B') : BSrc w B' sp n cap l := ⟨h.len, fun hn => by
 obtain ⟨bb, off, e, hlt, hc, hcell⟩ := h.cells hn
 exact ⟨bb, off, e, by omega, hc, hcell⟩⟩
def ub (l : List UInt8) : List Int := l.map fun u => (u.toNat : Int)
theorem rF (l : List UInt8) : (ub l).map (Value.int .u8) = Lib.byteCells l := by
 unfold ub Lib.byteCells
 rw [List.map_map]
 rfl
theorem eT (l : List UInt8) : (ub l).length = l.length := by simp [ub]
theorem AY (l : List UInt8) : Byt (ub l) := by
 intro x hx
 obtain ⟨u, _, rfl⟩ := List.mem_map.1 hx
 have := u.toNat_lt
 omega
def NA : ByteArray := ⟨#[101, 110, 118, 101, 108, 111, 112, 101]⟩
def jK (t : ByteArray) (b : List UInt8) : List (List ByteArray) := [[NA, t, ⟨b.toArray⟩]]
def dQ (t : ByteArray) (b : List UInt8) : List Int := if (enc (jK t b)).1 = 0 then aT (sha (ub (enc (jK t b)).2)).list else zed
theorem iX (t : ByteArray) (b : List UInt8) : D32 (dQ t b) := by
 unfold dQ; split
 ·exact ⟨by simp [aR, St.list_length], fun x hx => kF _ x hx⟩
 ·exact D32.zed
theorem JG (ls : List (List ByteArray)) : (enc ls).2.length ≤ 262144 := by
 by_cases h : chk ls = 0
 ·by_cases h2 : 262144 < (iA ls).length
  ·rw [rY h h2]; simp
  ·rw [rZ h h2]; simp; omega
 ·rw [mP h]; simp
theorem qB {w : World} {g : Nat} {x y z : ByteArray} (h : w.heap[g]? = some (.cells #[.string x, .string y, .string z] 9 (0, 0))) : StrsIn w w.heap.size (some ⟨g, 0, none⟩) 3 [x, y, z] :=
 ⟨rfl, fun _ => ⟨g, 0, rfl, (Array.getElem?_eq_some_iff.1 h).1, fun j hj => by
  rw [cell_of_row w g _ _ _ _ h]
  rcases j with _ | _ | _ | j
  ·rfl
  ·rfl
  ·rfl
  ·exact absurd hj (by show ¬ _ < 3; omega)⟩⟩
theorem tX {w : World} {g g2 : Nat} {L : List ByteArray} {n : Nat} (h2 : w.heap[g2]? = some (.cells #[.slice (some ⟨g, 0, none⟩) n n] 81 (0, 0))) (h : StrsIn w w.heap.size (some ⟨g, 0, none⟩) n L) :
 LinesIn w w.heap.size (some ⟨g2, 0, none⟩) 1 [⟨some ⟨g, 0, none⟩, n, n, L⟩] :=
 ⟨rfl, fun _ => ⟨g2, 0, rfl, (Array.getElem?_eq_some_iff.1 h2).1, fun j hj => by
  rw [cell_of_row w g2 _ _ _ _ h2]
  rcases j with _ | j
  ·rfl
  ·exact absurd hj (by show ¬ _ < 1; omega)⟩, fun q hq => by rw [List.mem_singleton.1 hq]; exact h⟩
theorem uG (t : ByteArray) (sp : Option Addr) (n cap : Nat) (b : List UInt8) (w : World) (hp : BSrc w w.heap.size sp n cap b) :
 Calls Tryz.prog 38 #[.string t, .slice sp n cap] w fun e w' => e = .returned (.slice (some ⟨w.heap.size, 0, none⟩) 3 3) ∧ Hid (w'.heap[w.heap.size]? = some (.cells #[.string NA, .string t, .string ⟨b.toArray⟩] 9 (0, 0))) ∧ Below w.heap.size w w' := by
 have hc := hZ (c2 := cap) hp
 have HP := zh hp; clear hp
 have HN := zh (heap_alloc_new w (.cells #[.string NA, .string t, .string ⟨b.toArray⟩] 9))
 go_enter Tryz.func38, Tryz.ntmps38
 go_wp2_with fail
 go_ret
 exact ⟨rfl, HN.out, (Below.refl _ _).alloc (Nat.le_refl _) _⟩
theorem oW (t : ByteArray) (sp : Option Addr) (n cap : Nat) (b : List UInt8) (w : World) (hp : BSrc w w.heap.size sp n cap b) (hk : KayIn w) (hk0 : 1 < w.heap.size) :
 Calls Tryz.prog 54 #[.string t, .slice sp n cap] w fun e w' => e = .returned (.agg (dgA (dQ t b))) ∧ Below w.heap.size w w' := by
 have HP := zh hp; clear hp
 have HK := zh hk; clear hk
 have HMO := zh (iX t b)
 have HMI : Hid ((Tryz.prog.info? 43).map (·.size) = some (dgA (dQ t b)).size) := by show _ = _; rw [show (dgA (dQ t b)).size = 32 by simp [dgA, HMO.out.1]]; exact rU
 have HMS : Hid (32 = (dgA (dQ t b)).size) := by show _ = _; simp [dgA, HMO.out.1]
 clear HMO
 have HLE := zh (JG (jK t b))
 have HMD : Hid (dgA (dQ t b) = if (enc (jK t b)).1 = 0 then dg (ub (enc (jK t b)).2) else dgA zed) := by
  show _ = _
  unfold dQ
  split <;> rfl
 generalize dgA (dQ t b) = MD at *
 go_enter Tryz.func54, Tryz.ntmps54
 go_upto_region 1 with fail
 generalize hw0 : World.alloc w _ = w0
 have HR0 : Hid (w0.heap[w.heap.size]? = some (.cells (Array.replicate 32 (Value.int .u8 0)) 43 (0, 0))) := by rw [← hw0]; exact heap_alloc_new _ _
 have HB0 : Hid (Below w.heap.size w w0) := by rw [← hw0]; exact (Below.refl _ _).alloc (Nat.le_refl _) _
 have hs0 : w.heap.size < w0.heap.size := by rw [← hw0]; simp
 clear hw0
 go_wp2_with fail
 refine (uG t sp n cap b w0 ((HP.out.below HB0.out (Nat.le_refl _)).more (by omega))).mono ?_
 rintro e w1 ⟨rfl, HH1, hb1⟩
 have HB1 : Hid (Below w0.heap.size w0 w1) := hb1
 have hs1 : w0.heap.size < w1.heap.size := (Array.getElem?_eq_some_iff.1 HH1.out).1
 clear hb1
 have HA2 := zh (heap_alloc_new w1 (.cells #[.slice (some ⟨w0.heap.size, 0, none⟩) 3 3] 81))
 have QO := zh ((Below.refl w1.heap.size w1).alloc (Nat.le_refl _) (.cells #[.slice (some ⟨w0.heap.size, 0, none⟩) 3 3] 81))
 go_wp2_with fail
 generalize hw2 : World.alloc w1 _ = w2 at *
 have HH2 : Hid (w2.heap[w1.heap.size]? = some (.cells #[.slice (some ⟨w0.heap.size, 0, none⟩) 3 3] 81 (0, 0))) := HA2.out
 have HB2 : Hid (Below w1.heap.size w1 w2) := QO.out
 clear HA2 QO hw2
 have wZ : Hid (Below w0.heap.size w0 w2) := HB1.out.trans (HB2.out.mono (by omega))
 have HL2 := zh (tX HH2.out (qB ((HB2.out.block _ (by omega)).trans HH1.out)))
 refine (AK _ 1 _ _ w2 HL2.out (by omega) (fun q hq => by rw [List.mem_singleton.1 hq]; show 3 ≤ _; omega)).mono ?_
 rintro e w3 ⟨v, rfl, ho, hb3⟩
 change Hid (w3.ownsRow w2.heap.size 5 1 v (enc (jK t b)).2.length (Lib.byteCells (enc (jK t b)).2)) at ho
 rw [show cX [⟨some ⟨w0.heap.size, 0, none⟩, 3, 3, [NA, t, ⟨b.toArray⟩]⟩] = jK t b from rfl]
 have MX : Hid (Below w0.heap.size w0 w3) := wZ.out.trans (hb3.mono wZ.out.size)
 have HB3 : Hid (Below w.heap.size w w3) := HB0.out.trans (MX.out.mono (by omega))
 have HR3 : Hid (w3.heap[w.heap.size]? = some (.cells (Array.replicate 32 (Value.int .u8 0)) 43 (0, 0))) := (MX.out.block _ (by omega)).trans HR0.out
 clear hb3
 generalize (enc (jK t b)).2 = E at *
 obtain ⟨k, hk1⟩ : ∃ k, (enc (jK t b)).1 = k := ⟨_, rfl⟩
 rw [hk1]
 rw [hk1] at HMD
 have ho1 : w3.ownsRow w2.heap.size 5 1 v (ub E).length ((ub E).map (Value.int .u8)) := by
  rw [rF, eT]; exact ho.out
 obtain ⟨sp3, cap3, rfl, hsrc, hnil⟩ := gD ho1 (AY _)
 rw [eT] at hsrc
 have hlen := HLE.out
 obtain ⟨m, hm⟩ : ∃ m, E.length = m := ⟨_, rfl⟩
 rw [hm] at hsrc hlen
 rw [eT, hm]
 have HS3 := zh hsrc; have uY := zh hnil
 clear hsrc hnil ho1 ho hm hk1 HLE HL2 HH1 HH2 HB1 HB2 wZ
 by_cases hk2 : k = 0
 ·subst hk2
  have IF : Hid (MD = dg (ub E)) := HMD.out
  clear HMD
  have PI : Hid (Calls Tryz.prog 70 #[.slice sp3 m cap3] w3 fun e w' => e = .returned (.agg MD) ∧ Below w3.heap.size w3 w') := by
   rw [IF.out]; exact DZ sp3 m cap3 (ub E) w3 HS3.out (HK.out.below HB3.out hk0) (by have := HB3.out.size; omega) (by omega)
  go_wp2_with fail
  refine PI.out.mono ?_
  rintro e w4 ⟨rfl, hb4⟩
  have HB4 : Hid (Below w.heap.size w w4) := HB3.out.trans (hb4.mono HB3.out.size)
  have HR4 : Hid (w4.heap[w.heap.size]? = some (.cells (Array.replicate 32 (Value.int .u8 0)) 43 (0, 0))) := (hb4.block _ (by have := MX.out.size; omega)).trans HR3.out
  have h1 : ∀ i : Fin MD.size, True := fun _ => trivial
  have EJ : Hid (MD.all (·.oneCell') = true) := by show _ = _; rw [IF.out]; exact cZ _
  clear hb4 h1 HR3 PI
  go_wp2_with (refine wpList_store_row rfl 43 _ _ rfl w.heap.size MD rfl (by rfl) 43 _ HR4.out HMI.out ((rfl : ((Array.replicate 32 (Value.int .u8 0))).size = 32).trans HMS.out) EJ.out ?_; have hr2 := setRow_heap _ _ _ MD _ _ HR4.out; have hb2 := below_setRow HB4.out (Nat.le_refl w.heap.size) MD; generalize World.setRow _ _ _ = w9 at hr2 hb2 ⊢; have HR9 := zh hr2; have HB9 := zh hb2; clear hr2 hb2)
  refine bodyPost_ret (results_cell_row (P := Tryz.prog) rfl _ _ w.heap.size 43 _ (0, 0) _ rfl HR9.out Tryz.underlying43 rfl HMI.out) rfl ⟨rfl, HB9.out⟩
 ·have IF : Hid (MD = dgA zed) := by show _ = _; have := HMD.out; rwa [if_neg hk2] at this
  have hq : (((k : Nat) : Int) == 0) = false := by simp; omega
  have HZI : Hid ((Tryz.prog.info? 43).map (·.size) = some (dgA zed).size) := by show _ = _; rw [show (dgA zed).size = 32 from rfl]; exact rU
  clear HMD
  go_wp2_with (refine wpList_store_row rfl 43 _ _ rfl w.heap.size (dgA zed) rfl (by rfl) 43 _ HR3.out HZI.out rfl (bE _ _) ?_; have hr2 := setRow_heap _ _ _ (dgA zed) _ _ HR3.out; have hb2 := below_setRow HB3.out (Nat.le_refl w.heap.size) (dgA zed); generalize World.setRow _ _ _ = w9 at hr2 hb2 ⊢; have HR9 := zh hr2; have HB9 := zh hb2; clear hr2 hb2)
  refine bodyPost_ret (results_cell_row (P := Tryz.prog) rfl _ _ w.heap.size 43 _ (0, 0) _ rfl HR9.out Tryz.underlying43 rfl HZI.out) rfl ⟨by rw [IF.out], HB9.out⟩
theorem tG (t : ByteArray) (sp : Option Addr) (n cap : Nat) (b : List UInt8) (w : World) (hp : BSrc w w.heap.size sp n cap b) :
 Calls Tryz.prog 52 #[.string t, .slice sp n cap] w fun e w' => e = .returned (.agg (dgA (dQ t b))) ∧ Below w.heap.size w w' := by
 have HP := zh hp; clear hp
 have HMO := zh (iX t b)
 have HMI : Hid ((Tryz.prog.info? 43).map (·.size) = some (dgA (dQ t b)).size) := by show _ = _; rw [show (dgA (dQ t b)).size = 32 by simp [dgA, HMO.out.1]]; exact rU
 have HMS : Hid (32 = (dgA (dQ t b)).size) := by show _ = _; simp [dgA, HMO.out.1]
 clear HMO
 have HLE := zh (JG (jK t b))
 have HMD : Hid (dgA (dQ t b) = if (enc (jK t b)).1 = 0 then dg (ub (enc (jK t b)).2) else dgA zed) := by
  show _ = _
  unfold dQ
  split <;> rfl
 generalize dgA (dQ t b) = MD at *
 go_enter Tryz.func52, Tryz.ntmps52
 have hc := fun w1 (h : Below w.heap.size w w1) => hZ (c2 := cap) (HP.out.below h (Nat.le_refl _))
 go_upto_region 1 with fail
 generalize hw0 : World.alloc w _ = w0
 have HR0 : Hid (w0.heap[w.heap.size]? = some (.cells (Array.replicate 32 (Value.int .u8 0)) 43 (0, 0))) := by rw [← hw0]; exact heap_alloc_new _ _
 have HB0 : Hid (Below w.heap.size w w0) := by rw [← hw0]; exact (Below.refl _ _).alloc (Nat.le_refl _) _
 have hs0 : w.heap.size < w0.heap.size := by rw [← hw0]; simp
 clear hw0
 have hc1 := hc w0 HB0.out
 clear hc
 have HA := zh (heap_alloc_new w0 (.cells #[.string ⟨#[101, 110, 118, 101, 108, 111, 112, 101]⟩, .string t, .string ⟨b.toArray⟩] 9))
 have HAB := zh ((Below.refl w0.heap.size w0).alloc (Nat.le_refl _) (.cells #[.string ⟨#[101, 110, 118, 101, 108, 111, 112, 101]⟩, .string t, .string ⟨b.toArray⟩] 9))
 have HAS := zh (World.size_alloc w0 (.cells #[.string ⟨#[101, 110, 118, 101, 108, 111, 112, 101]⟩, .string t, .string ⟨b.toArray⟩] 9))
 have HA2 := zh (heap_alloc_new (w0.alloc (.cells #[.string ⟨#[101, 110, 118, 101, 108, 111, 112, 101]⟩, .string t, .string ⟨b.toArray⟩] 9)) (.cells #[.slice (some ⟨w0.heap.size, 0, none⟩) 3 3] 81))
 have QO := zh ((Below.refl (w0.alloc (.cells #[.string ⟨#[101, 110, 118, 101, 108, 111, 112, 101]⟩, .string t, .string ⟨b.toArray⟩] 9)).heap.size (w0.alloc (.cells #[.string ⟨#[101, 110, 118, 101, 108, 111, 112, 101]⟩, .string t, .string ⟨b.toArray⟩] 9))).alloc (Nat.le_refl _) (.cells #[.slice (some ⟨w0.heap.size, 0, none⟩) 3 3] 81))
 go_wp2_with fail
 generalize hw1 : World.alloc w0 _ = w1 at *
 generalize hw2 : World.alloc w1 _ = w2 at *
 have HS1 : Hid (w1.heap.size = w0.heap.size + 1) := HAS.out
 have hs1 : w0.heap.size < w1.heap.size := by have := HS1.out; omega
 have HH1 : Hid (w1.heap[w0.heap.size]? = some (.cells #[.string NA, .string t, .string ⟨b.toArray⟩] 9 (0, 0))) := HA.out
 have HB1 : Hid (Below w0.heap.size w0 w1) := HAB.out
 have HH2 : Hid (w2.heap[w1.heap.size]? = some (.cells #[.slice (some ⟨w0.heap.size, 0, none⟩) 3 3] 81 (0, 0))) := HA2.out
 have HB2 : Hid (Below w1.heap.size w1 w2) := QO.out
 clear HA HAB HAS HA2 QO hw1 hw2 hc1
 first | rw [show w0.heap.size + 1 = w1.heap.size from HS1.out.symm] | skip
 have wZ : Hid (Below w0.heap.size w0 w2) := HB1.out.trans (HB2.out.mono (by omega))
 have HL2 := zh (tX HH2.out (qB ((HB2.out.block _ (by omega)).trans HH1.out)))
 refine (rK _ 1 _ _ w2 HL2.out (by omega) (fun q hq => by rw [List.mem_singleton.1 hq]; show 3 ≤ _; omega)).mono ?_
 rintro e w3 ⟨v, rfl, ho, hb3⟩
 change Hid (w3.ownsRow w2.heap.size 5 1 v (enc (jK t b)).2.length (Lib.byteCells (enc (jK t b)).2)) at ho
 rw [show cX [⟨some ⟨w0.heap.size, 0, none⟩, 3, 3, [NA, t, ⟨b.toArray⟩]⟩] = jK t b from rfl]
 have MX : Hid (Below w0.heap.size w0 w3) := wZ.out.trans (hb3.mono wZ.out.size)
 have HB3 : Hid (Below w.heap.size w w3) := HB0.out.trans (MX.out.mono (by omega))
 have HR3 : Hid (w3.heap[w.heap.size]? = some (.cells (Array.replicate 32 (Value.int .u8 0)) 43 (0, 0))) := (MX.out.block _ (by omega)).trans HR0.out
 clear hb3
 generalize (enc (jK t b)).2 = E at *
 obtain ⟨k, hk1⟩ : ∃ k, (enc (jK t b)).1 = k := ⟨_, rfl⟩
 rw [hk1]
 rw [hk1] at HMD
 have ho1 : w3.ownsRow w2.heap.size 5 1 v (ub E).length ((ub E).map (Value.int .u8)) := by
  rw [rF, eT]; exact ho.out
 obtain ⟨sp3, cap3, rfl, hsrc, hnil⟩ := gD ho1 (AY _)
 rw [eT] at hsrc
 have hlen := HLE.out
 obtain ⟨m, hm⟩ : ∃ m, E.length = m := ⟨_, rfl⟩
 rw [hm] at hsrc hlen
 rw [eT, hm]
 have HS3 := zh hsrc; have uY := zh hnil
 clear hsrc hnil ho1 ho hm hk1 HLE HL2 HH1 HH2 HB1 HB2 wZ
 by_cases hk2 : k = 0
 ·subst hk2
  have IF : Hid (MD = dg (ub E)) := HMD.out
  clear HMD
  have PI : Hid (Calls Tryz.prog 65 #[.slice sp3 m cap3] w3 fun e w' => e = .returned (.agg MD) ∧ Below w3.heap.size w3 w') := by
   rw [IF.out]; exact mH sp3 m cap3 (ub E) w3 HS3.out uY.out (by omega)
  go_wp2_with fail
  refine PI.out.mono ?_
  rintro e w4 ⟨rfl, hb4⟩
  have HB4 : Hid (Below w.heap.size w w4) := HB3.out.trans (hb4.mono HB3.out.size)
  have HR4 : Hid (w4.heap[w.heap.size]? = some (.cells (Array.replicate 32 (Value.int .u8 0)) 43 (0, 0))) := (hb4.block _ (by have := MX.out.size; omega)).trans HR3.out
  have h1 : ∀ i : Fin MD.size, True := fun _ => trivial
  have EJ : Hid (MD.all (·.oneCell') = true) := by show _ = _; rw [IF.out]; exact cZ _
  clear hb4 h1 HR3 PI
  go_wp2_with (refine wpList_store_row rfl 43 _ _ rfl w.heap.size MD rfl (by rfl) 43 _ HR4.out HMI.out ((rfl : ((Array.replicate 32 (Value.int .u8 0))).size = 32).trans HMS.out) EJ.out ?_; have hr2 := setRow_heap _ _ _ MD _ _ HR4.out; have hb2 := below_setRow HB4.out (Nat.le_refl w.heap.size) MD; generalize World.setRow _ _ _ = w9 at hr2 hb2 ⊢; have HR9 := zh hr2; have HB9 := zh hb2; clear hr2 hb2)
  refine bodyPost_ret (results_cell_row (P := Tryz.prog) rfl _ _ w.heap.size 43 _ (0, 0) _ rfl HR9.out Tryz.underlying43 rfl HMI.out) rfl ⟨rfl, HB9.out⟩
 ·have IF : Hid (MD = dgA zed) := by show _ = _; have := HMD.out; rwa [if_neg hk2] at this
  have hq : (((k : Nat) : Int) == 0) = false := by simp; omega
  have HZI : Hid ((Tryz.prog.info? 43).map (·.size) = some (dgA zed).size) := by show _ = _; rw [show (dgA zed).size = 32 from rfl]; exact rU
  clear HMD
  go_wp2_with (refine wpList_store_row rfl 43 _ _ rfl w.heap.size (dgA zed) rfl (by rfl) 43 _ HR3.out HZI.out rfl (bE _ _) ?_; have hr2 := setRow_heap _ _ _ (dgA zed) _ _ HR3.out; have hb2 := below_setRow HB3.out (Nat.le_refl w.heap.size) (dgA zed); generalize World.setRow _ _ _ = w9 at hr2 hb2 ⊢; have HR9 := zh hr2; have HB9 := zh hb2; clear hr2 hb2)
  refine bodyPost_ret (results_cell_row (P := Tryz.prog) rfl _ _ w.heap.size 43 _ (0, 0) _ rfl HR9.out Tryz.underlying43 rfl HZI.out) rfl ⟨by rw [IF.out], HB9.out⟩
end Go.Proofs.YtcligodahogpkaaGreatDoor
namespace Go.Proofs.YtcligodahogpkaaGreatDoor
open Go.RowKit
def lI (l : List (List Int)) : List Value := l.flatMap fun d => d.map (Value.int .u8)
theorem oP (l : List (List Int)) (x : List Int) : lI (l ++ [x]) = lI l ++ x.map (Value.int .u8) := by simp [lI]
def OwnDg (w : World) (base : Nat) (v : Value) (l : List (List Int)) : Prop := w.ownsRow base 43 32 v l.length (lI l) ∧ ∀ x ∈ l, D32 x
theorem OwnDg.nil (w : World) (base : Nat) : OwnDg w base (.slice none 0 0) [] := ⟨World.ownsRow_nil w base _ _, by simp⟩
theorem OwnDg.below {w w' : World} {base : Nat} {v : Value} {l : List (List Int)} (h : OwnDg w base v l) (hb : Below w.heap.size w w') : OwnDg w' base v l := ⟨eN h.1 hb, h.2⟩
theorem OwnDg.digs {w : World} {base : Nat} {sp : Option Addr} {n cap : Nat} {l : List (List Int)} (h : OwnDg w base (.slice sp n cap) l) (hn : l.length = n) : DigsIn w w.heap.size sp n cap l := by
 refine ⟨hn, fun x hx => ⟨(h.2 x hx).1, (h.2 x hx).2⟩, fun h0 => ?_⟩
 have h1 := h.1
 obtain ⟨_, ⟨e, e0⟩ | ⟨g, cap', cur, e, _⟩⟩ := h.1
 ·omega
 ·injection e with e1 e2 e3
  subst e1
  obtain ⟨hg, hc, hr⟩ := mJ (f := fun d : List Int => d.map (Value.int .u8)) h1 (fun x hx => by rw [List.length_map, (h.2 x hx).1]) hn
  refine ⟨g, 0, rfl, hg, hc, fun i hi => ?_⟩
  exact hr i _ (by rw [List.getD_eq_getElem?_getD, List.getElem?_eq_getElem (by omega)]; rfl)
theorem CU : (Tryz.prog.info? 43).map (fun i => (i.zero, i.size, i.bytes)) = some (some (.agg (List.replicate 32 (Value.int .u8 0)).toArray), 32, 32) := by kernel_rfl
theorem nL {w : World} {ops : Array Oper} {rest : List Oper} {o : Oper} {a : Act} {Q : Exit → Act → World → Prop} (hgd : o.guard = none) (s x : Operand)
 (ho : o.op = .call { callee := .builtin .append, args := #[s, x], argTypes := #[38, 38] }) (base : Nat) (v : Value) (l : List (List Int)) (n : Nat) (hn : n = l.length) (hs : a.eval s = v) (hown : OwnDg w base v l)
 (g : Nat) (y : List Int) (hx : a.eval x = .slice (some ⟨g, 0, none⟩) 1 1) (hy : w.rangeAt g 0 (y.map (Value.int .u8))) (hok : D32 y) (hlen : n ≤ 1000000) (hbase : base ≤ w.heap.size)
 (h : ∀ sp cap w', Hid (OwnDg w' base (.slice sp (n + 1) cap) (l ++ [y])) → Hid (Below base w w') → Hid (w.grownBy w' v.ownBlock) → wpList Tryz.prog ops Q rest (a.put o.dst (.slice sp (n + 1) cap)) w') : wpList Tryz.prog ops Q (o :: rest) a w := by
 subst hn
 obtain ⟨i0, hi0, hz0, hz1, hz2⟩ := bF CU
 refine wpList_append_own w hgd s x _ ho base _ i0 _ 32 32 Tryz.underlying38 hi0 hz0 hz1 hz2 rfl (by decide) v l.length _ hs hown.1 ⟨g, 0, none⟩ 1 1 (y.map (Value.int .u8)) hx (by rw [List.length_map, hok.1]) ?_ (gG _ _) (by unfold maxLen; omega) (by omega) hbase ?_
 ·intro j u hj
  rw [Addr.add_mid]
  exact hy j u hj
 ·intro v' w' h1 h2 _
  obtain ⟨sp, cap, rfl⟩ := aZ h1
  refine h sp cap w' ⟨by rw [oP, List.length_append]; exact h1, fun z hz => ?_⟩ ((Below.refl base w).grown h2 hbase (bL hown.1)) h2
  rcases List.mem_append.1 hz with hz | hz
  ·exact hown.2 z hz
  ·rw [List.mem_singleton.1 hz]; exact hok
theorem NM : (Tryz.prog.info? 43).map (·.zero) = some (some (.agg (List.replicate 32 (Value.int .u8 0)).toArray)) := by kernel_rfl
theorem rG (w : World) (x : List Int) (hx : D32 x) : (Instr.buildSlice 38 1 #[(0, .agg (dv x))]).run Tryz.prog w = .ok (.slice (some ⟨w.heap.size, 0, none⟩) 1 1) (w.alloc (.cells (dv x) 43)) := by
 have h : (x.map (Value.int .u8)).length = 32 := by rw [List.length_map, hx.1]
 have hz := NM
 have hi := rU
 cases hie : Tryz.prog.info? 43 with
 | none => rw [hie] at hi; cases hi
 | some ie =>
   rw [hie] at hi hz
   exact oK w _ _ _ ie _ Tryz.underlying38 hie (by injection hz) (by rw [h]; injection hi) (by omega) (by omega)
theorem OwnDg.base {w : World} {b b' : Nat} {v : Value} {l : List (List Int)} (h : OwnDg w b v l) (hb : b' ≤ b) : OwnDg w b' v l := by
 refine ⟨?_, h.2⟩
 obtain ⟨hl, h1 | ⟨g, cap, cur, e, hbg, rest⟩⟩ := h.1
 ·exact ⟨hl, .inl h1⟩
 ·exact ⟨hl, .inr ⟨g, cap, cur, e, Nat.le_trans hb hbg, rest⟩⟩
end Go.Proofs.YtcligodahogpkaaGreatDoor
namespace Go.Proofs.YtcligodahogpkaaGreatDoor
open Go.RowKit Go.Proofs.YtcligodahogpkaaGreatDoor.One
def kT (d : List Int) (p : Pg) : Bool := IN p.h p.r d p.a p.l.length p.q.length p.l p.q
theorem JU {w : World} {B : Nat} {x : Sg} (h : SgD w B x) (d : List Int) : IN x.h x.r d x.a x.n x.m x.l x.q = kT d (pg x) := by
 unfold kT pg; rw [show x.n = x.l.length from h.c.len.symm, show x.m = x.q.length from h.p.len.symm]
def kO (d : List Int) (L : List Pg) : List (List Int) := (L.filter (kT d)).map idP
theorem CX (d : List Int) (L : List Pg) (x : Pg) : kO d (L ++ [x]) = if kT d x = true then kO d L ++ [idP x] else kO d L := by
 unfold kO
 rw [List.filter_append]
 cases h : kT d x <;> simp [h]
theorem CY (d : List Int) (L : List Pg) : (kO d L).length ≤ L.length := by unfold kO; rw [List.length_map]; exact List.length_filter_le _ _
def kL (t : ByteArray) (b : List UInt8) (L : List Pg) : List (List Int) := if eY t b L = true then kO (dQ t b) L else []
theorem nR {t : ByteArray} {b : List UInt8} {L : List Pg} (h : eY t b L = true) : L.length ≤ 8 := by
 unfold eY at h
 simp only [Bool.and_eq_true, decide_eq_true_eq] at h
 exact h.2.2.1
theorem vF (x : Sg) (p : Nat) (d : List Int) (w : World) (hx : OkG x) (hd : D32 d) (hdat : SgD w w.heap.size x) (hp : w.heap[p]? = some (.cells (dgA d) 43 (0, 0))) (hk : KayIn w) (hk0 : 1 < w.heap.size) :
 Calls Tryz.prog 55 #[.agg (bD x).toArray, .pointer (some ⟨p, 0, none⟩)] w fun e w' => e = .returned (.bool (kT d (pg x))) ∧ Below w.heap.size w w' := by
 have HX := zh hx; have HD := zh hd; have HK := zh hk; have HDT := zh hdat
 have HN := zh (GB.new w x)
 have HBN := zh ((Below.refl w.heap.size w).alloc (Nat.le_refl _) (.cells (bD x).toArray 62))
 have hpl := (Array.getElem?_eq_some_iff.1 hp).1
 have HP := zh hp
 have HV := zh (JU hdat d)
 clear hx hd hk hdat hp
 go_enter Tryz.func55, Tryz.ntmps55
 go_upto_region 1 with fail
 generalize hw0 : World.alloc w _ = w0
 have HG0 : Hid (GB w0 w.heap.size x) := by rw [← hw0]; exact HN.out
 have HB0 : Hid (Below w.heap.size w w0) := by rw [← hw0]; exact HBN.out
 have hs0 : w0.heap.size = w.heap.size + 1 := by rw [← hw0]; simp
 have HP0 : Hid (w0.heap[p]? = some (.cells (dgA d) 43 (0, 0))) := (HB0.out.block _ hpl).trans HP.out
 clear hw0 HN HBN
 have HPP := zh HG0.out.p; have HSS := zh (HG0.out.s HX.out)
 have HIP := zh (iG HX.out); have HIS := zh (rR x)
 have HID : Hid ((Tryz.prog.info? 43).map (·.size) = some (dgA d).size) := by show _ = _; rw [show (dgA d).size = 32 by simp [dgA, HD.out.1]]; exact rU
 have HCV : Hid (Calls Tryz.prog 56 #[.agg (sgP x).toArray, .agg (dgA d), .agg (sgS x).toArray] w0 fun e w'' => e = .returned (.bool (kT d (pg x))) ∧ Below w0.heap.size w0 w'') := by
  have h := yW x.h x.r d x.a x.sp x.n x.c x.sq x.m x.d x.l x.q w0 HX.out HD.out (HDT.out.up HB0.out (Nat.le_refl _)).c (HDT.out.up HB0.out (Nat.le_refl _)).p (HK.out.below HB0.out hk0) (by omega)
  rw [HV.out] at h
  exact h
 go_wp2_with (first
  | (refine wpList_load_mid rfl 56 _ rfl w.heap.size 0 rfl _ _ HPP.out Tryz.underlying56 rfl HIP.out ?_)
  | (refine wpList_load_row rfl 43 _ rfl p rfl 43 _ (0, 0) _ HP0.out Tryz.underlying43 rfl HID.out ?_)
  | (refine wpList_load_mid rfl 60 _ rfl w.heap.size 17 rfl _ _ HSS.out Tryz.underlying60 rfl HIS.out ?_))
 refine HCV.out.mono ?_
 rintro e w1 ⟨rfl, hb⟩
 have HB1 := zh hb; clear hb
 go_wp2_with fail
 go_ret
 exact ⟨rfl, HB0.out.trans (HB1.out.mono (by omega))⟩
theorem mU (t : ByteArray) (sp : Option Addr) (n cap : Nat) (b : List UInt8) (s : Value) (w : World) (hp : BSrc w w.heap.size sp n cap b) (hk : KayIn w) (hk0 : 1 < w.heap.size) :
 Calls Tryz.prog 24 #[.agg (enA t (.slice sp n cap) s)] w fun e w' => ∃ p, e = .returned (.func (.func 55) #[] #[.pointer (some ⟨p, 0, none⟩)]) ∧ Hid (w'.heap[p]? = some (.cells (dgA (dQ t b)) 43 (0, 0)) ∧ w.heap.size ≤ p) ∧ Below w.heap.size w w' := by
 have HP := zh hp; have HK := zh hk
 have HE := zh (heap_alloc_new w (.cells (enA t (.slice sp n cap) s) 25))
 clear hp hk
 have HMO := zh (iX t b)
 have HMI : Hid ((Tryz.prog.info? 43).map (·.size) = some (dgA (dQ t b)).size) := by show _ = _; rw [show (dgA (dQ t b)).size = 32 by simp [dgA, HMO.out.1]]; exact rU
 have HMS : Hid (32 = (dgA (dQ t b)).size) := by show _ = _; simp [dgA, HMO.out.1]
 go_enter Tryz.func24, Tryz.ntmps24
 go_upto_region 1 with fail
 generalize hw0 : World.alloc w _ = w0
 have HE0 : Hid (w0.heap[w.heap.size]? = some (.cells (enA t (.slice sp n cap) s) 25 (0, 0))) := by rw [← hw0]; exact HE.out
 have HB0 : Hid (Below w.heap.size w w0) := by rw [← hw0]; exact (Below.refl _ _).alloc (Nat.le_refl _) _
 have hs0 : w0.heap.size = w.heap.size + 1 := by rw [← hw0]; simp
 clear hw0 HE
 have c0 := GN HE0.out; have c1 := pU HE0.out
 have HCM := zh (oW t sp n cap b w0 ((HP.out.below HB0.out (Nat.le_refl _)).more (by omega)) (HK.out.below HB0.out hk0) (by omega))
 go_wp2_with fail
 refine HCM.out.mono ?_
 rintro e w1 ⟨rfl, hb⟩
 have HB1 := zh hb; clear hb
 clear c0 c1
 have HZ := zh (heap_alloc_new w1 (.cells (Array.replicate 32 (Value.int .u8 0)) 43))
 have HB2 := zh ((Below.refl w1.heap.size w1).alloc (Nat.le_refl _) (.cells (dgA (dQ t b)) 43))
 have HH2 := zh (heap_alloc_new w1 (.cells (dgA (dQ t b)) 43))
 have HBW := zh (HB0.out.trans (HB1.out.mono (by omega)))
 have hs1 := HB1.out.size
 generalize hMD : dgA (dQ t b) = MD at *
 have EJ : Hid (MD.all (·.oneCell') = true) := by show _ = _; rw [← hMD]; exact bE _ _
 go_wp2_with (refine wpList_store_row rfl 43 _ _ rfl w1.heap.size MD rfl (by rfl) 43 _ HZ.out HMI.out ((rfl : ((Array.replicate 32 (Value.int .u8 0))).size = 32).trans HMS.out) EJ.out ?_; rw [bW]; generalize hw2 : World.alloc w1 _ = w2 at *)
 go_ret
 exact ⟨w1.heap.size, rfl, ⟨by rw [hMD]; exact HH2.out, by omega⟩, HBW.out.trans (HB2.out.mono (by omega))⟩
theorem oL (t : ByteArray) (sp : Option Addr) (n cap : Nat) (b : List UInt8) (sq : Option Addr) (m cq : Nat) (l : List Sg) (w : World) (ht : t.size ≤ maxLen) (hp : BSrc w w.heap.size sp n cap b) (hl : SgsIn w w.heap.size sq m cq l) (hk : KayIn w) (hk0 : 1 < w.heap.size) :
 Calls Tryz.prog 13 #[.agg (enA t (.slice sp n cap) (.slice sq m cq))] w fun e w' => ∃ sp' cap', e = .returned (.slice sp' (kL t b (l.map pg)).length cap') ∧ OwnDg w' w.heap.size (.slice sp' (kL t b (l.map pg)).length cap') (kL t b (l.map pg)) ∧ Below w.heap.size w w' := by
 have HP := zh hp; have HL := zh hl; have HK := zh hk
 have HE := zh (heap_alloc_new w (.cells (enA t (.slice sp n cap) (.slice sq m cq)) 25))
 clear hp hl hk
 obtain ⟨S, hS⟩ : ∃ S, kL t b (l.map pg) = S := ⟨_, rfl⟩
 have HSG : Hid (S = if eY t b (l.map pg) = true then kO (dQ t b) (l.map pg) else []) := by show _ = _; rw [← hS]; rfl
 rw [hS]
 clear hS
 go_enter Tryz.func13, Tryz.ntmps13
 go_upto_region 1 with fail
 generalize hw0 : World.alloc w _ = w0
 have HE0 : Hid (w0.heap[w.heap.size]? = some (.cells (enA t (.slice sp n cap) (.slice sq m cq)) 25 (0, 0))) := by rw [← hw0]; exact HE.out
 have HB0 : Hid (Below w.heap.size w w0) := by rw [← hw0]; exact (Below.refl _ _).alloc (Nat.le_refl _) _
 have hs0 : w0.heap.size = w.heap.size + 1 := by rw [← hw0]; simp
 clear hw0 HE
 have HP0 := zh ((HP.out.below HB0.out (Nat.le_refl _)).more (show w.heap.size ≤ w0.heap.size by omega))
 have HL0 := zh (HL.out.up HB0.out (Nat.le_refl _))
 have HCV := zh (fN t sp n cap b sq m cq l w0 ht HP0.out HL0.out (HK.out.below HB0.out hk0) (by omega))
 have HIE := zh (aL t (.slice sp n cap) (.slice sq m cq))
 go_wp2_with (refine wpList_load_row rfl 25 _ rfl w.heap.size rfl 25 _ (0, 0) _ HE0.out Tryz.underlying25 rfl HIE.out ?_)
 refine HCV.out.mono ?_
 rintro e w1 ⟨rfl, hb⟩
 have HB1 := zh hb; clear hb HCV
 have hs1 := HB1.out.size
 have IG : Hid (Below w.heap.size w w1) := HB0.out.trans (HB1.out.mono (by omega))
 have HVL := zh (@nR t b (l.map pg))
 generalize eY t b (l.map pg) = v at *
 cases v
 ·have PL : Hid (S = []) := HSG.out
  clear HSG
  go_wp2_with fail
  go_ret
  exact ⟨none, 0, by rw [PL.out]; rfl, by rw [PL.out]; exact OwnDg.nil _ _, IG.out⟩
 ·have PL : Hid (S = kO (dQ t b) (l.map pg)) := HSG.out
  have h8 : m ≤ 8 := by have := HVL.out rfl; rw [List.length_map, HL.out.len] at this; exact this
  clear HSG HVL
  have HE1 : Hid (w1.heap[w.heap.size]? = some (.cells (enA t (.slice sp n cap) (.slice sq m cq)) 25 (0, 0))) := (HB1.out.block _ (by omega)).trans HE0.out
  have HCF := zh (mU t sp n cap b (.slice sq m cq) w1 ((HP0.out.below HB1.out (Nat.le_refl _)).more hs1) (HK.out.below IG.out hk0) (by have := IG.out.size; omega))
  go_wp2_with (refine wpList_load_row rfl 25 _ rfl w.heap.size rfl 25 _ (0, 0) _ HE1.out Tryz.underlying25 rfl HIE.out ?_)
  refine HCF.out.mono ?_
  rintro e w2 ⟨p, rfl, HPM, hb⟩
  have HB2 := zh hb; clear hb HCF
  have hs2 := HB2.out.size
  have MW : Hid (Below w.heap.size w w2) := IG.out.trans (HB2.out.mono (by omega))
  have HE2 : Hid (w2.heap[w.heap.size]? = some (.cells (enA t (.slice sp n cap) (.slice sq m cq)) 25 (0, 0))) := (HB2.out.block _ (by omega)).trans HE1.out
  have c2 := kP HE2.out
  have hpl : p < w2.heap.size := (Array.getElem?_eq_some_iff.1 HPM.out.1).1
  have HPD := zh HPM.out.1
  have HMD := zh (iX t b)
  clear HPM HE1 HE0
  generalize dQ t b = d at *
  obtain ⟨B, hBe⟩ : ∃ B, B = w2.heap.size := ⟨_, rfl⟩
  have hBW : w.heap.size ≤ B := by omega
  go_upto_region 6 with fail
  go_loopw [4, 15] (fun v i wr => ∃ k : Nat, k ≤ m ∧ i = .int .i64 k ∧ Hid (OwnDg wr B v (kO d ((l.map pg).take k))) ∧ Hid (Below B w2 wr)) (fun _ i _ => m - (intOf i).toNat)
  case atStart => exact ⟨0, Nat.zero_le _, rfl, OwnDg.nil _ _, Below.refl _ _⟩
  case round =>
   obtain ⟨k, hk, rfl, HOW, HBR⟩ := hrel
   have hszr : B ≤ wr.heap.size := by have := HBR.out.size; omega
   by_cases hlt : k < m
   ·have hd : decide ((k : Int) < (m : Int)) = true := by simp; omega
    obtain ⟨bq, off, rfl, hbB, hcap, hr⟩ := HL.out.cells (by omega)
    have hkl : k < l.length := by rw [HL.out.len]; exact hlt
    obtain ⟨x, hx⟩ : ∃ x, l[k]? = some x := ⟨l[k], List.getElem?_eq_getElem hkl⟩
    have hxm : x ∈ l := List.mem_of_getElem? hx
    have HBWR : Hid (Below w.heap.size w wr) := MW.out.trans (HBR.out.mono hBW)
    have HR := zh (aA (hr k x hx) HBWR.out hbB)
    have HOX := zh (HL.out.ok x hxm)
    have HI := zh (fM HOX.out); have HIP := zh (iG HOX.out)
    have HDX := zh (HL.out.dat x hxm)
    have HTK := zh (show (l.map pg).take (k + 1) = (l.map pg).take k ++ [pg x] by rw [List.take_add_one, List.getElem?_map, hx]; rfl)
    have p1 : (0 : Int) ≤ (k : Int) := by omega
    have p2 : (k : Int) < (m : Int) := by omega
    have p3 : (m : Int) ≤ (cq : Int) := by omega
    have HZG := zh (heap_alloc_new wr (.cells zG.toArray 62))
    clear hr hx hxm hkl hbB c2
    go_upto_region 8 with (first
     | (refine wpList_load_mid rfl 62 _ rfl bq (off + k * 20) rfl _ _ HR.out Tryz.underlying62 rfl HI.out ?_)
       | (refine wpList_store_row rfl 62 _ _ rfl wr.heap.size _ rfl rfl 62 _ HZG.out (eM HOX.out) (jZ HOX.out) (eU x) ?_; rw [bW]; generalize hw1' : World.alloc wr _ = w1'; have HG1' : Hid (GB w1' wr.heap.size x) := (by rw [← hw1']; exact GB.new wr x); have HB1' : Hid (Below wr.heap.size wr w1') := (by rw [← hw1']; exact (Below.refl _ _).alloc (Nat.le_refl _) _); have hs1' : w1'.heap.size = wr.heap.size + 1 := (by rw [← hw1']; simp); clear hw1'))
    clear HZG
    have QK : Hid (Below w.heap.size w w1') := HBWR.out.trans (HB1'.out.mono (by omega))
    have HPD1 : Hid (w1'.heap[p]? = some (.cells (dgA d) 43 (0, 0))) := (HB1'.out.block _ (by omega)).trans ((HBR.out.block _ (by omega)).trans HPD.out)
    have HCF := zh (vF x p d w1' HOX.out HMD.out (HDX.out.up QK.out (Nat.le_refl _)) HPD1.out (HK.out.below QK.out hk0) (by omega))
    go_wp2_with (refine wpList_load_row rfl 62 _ rfl wr.heap.size rfl 62 _ (0, 0) _ HG1'.out Tryz.underlying62 rfl (eM HOX.out) ?_)
    refine HCF.out.mono ?_
    rintro e w3 ⟨rfl, hb⟩
    have HB3 := zh hb; clear hb HCF HPD1
    have hs3 := HB3.out.size
    have HG3 : Hid (GB w3 wr.heap.size x) := HG1'.out.below HB3.out (by omega)
    have HPP := zh HG3.out.p
    have HBR3 : Hid (Below B w2 w3) := HBR.out.trans ((HB1'.out.mono hszr).trans (HB3.out.mono (by omega)))
    have HOW3 := zh ((HOW.out.below HB1'.out).below HB3.out)
    have HSN := zh (CX d ((l.map pg).take k) (pg x))
    have HLN := zh (CY d ((l.map pg).take k))
    cases hv : kT d (pg x)
    ·rw [hv] at HSN
     have PK : Hid (kO d ((l.map pg).take (k + 1)) = kO d ((l.map pg).take k)) := by show _ = _; rw [HTK.out]; exact HSN.out
     clear hv HSN
     go_wp2_with fail
     go_roundw
     case rel => exact ⟨k + 1, by omega, by go_num, by rw [PK.out]; exact HOW3, HBR3⟩
     case measure => simp [intOf]; omega
    ·rw [hv] at HSN
     have PK : Hid (kO d ((l.map pg).take (k + 1)) = kO d ((l.map pg).take k) ++ [idP (pg x)]) := by show _ = _; rw [HTK.out]; exact HSN.out
     clear hv HSN
     have HCI := zh (CZ x.h x.r w3 HOX.out (HK.out.below (MW.out.trans (HBR3.out.mono hBW)) hk0) (by have := HBR3.out.size; have := MW.out.size; omega))
     have HCI2 : Hid (Calls Tryz.prog 35 #[.agg (sgP x).toArray] w3 fun e w'' => e = .returned (.agg (dv (idP (pg x)))) ∧ Below w3.heap.size w3 w'') := HCI.out
     clear HCI
     have HYO := zh (iQ (pg x))
     have HLK : Hid ((kO d ((l.map pg).take k)).length ≤ 1000000) := by show _ ≤ _; have := HLN.out; rw [List.length_take] at this; omega
     generalize idP (pg x) = y at *
     go_wp2_with (refine wpList_load_mid rfl 56 _ rfl wr.heap.size 0 rfl _ _ HPP.out Tryz.underlying56 rfl HIP.out ?_)
     refine HCI2.out.mono ?_
     rintro e w6 ⟨rfl, hb⟩
     have HB6 := zh hb; clear hb HCI2
     have hs6 := HB6.out.size
     have HO6 := zh (HOW3.out.below HB6.out)
     go_wp2_with (first
      | (refine bR rfl 38 1 [(0, .tmp 25)] rfl [(0, .agg (dv y))] rfl _ _ (rG _ y HYO.out) ?_; generalize hw7 : World.alloc w6 _ = w7; have hr7 : w7.rangeAt w6.heap.size 0 (y.map (Value.int .u8)) := (by rw [← hw7]; intro j v hv; rw [Nat.zero_add]; exact aH (heap_alloc_new w6 _) hv); have hb7 : Below w6.heap.size w6 w7 := (by rw [← hw7]; exact aB _ _); have HR7 := zh hr7; have HB7 := zh hb7; have HO7 := zh (HO6.out.below hb7); have hs7 := hb7.size; have hs7b : B ≤ w7.heap.size := (by omega); clear hw7 hr7 hb7)
      | (at_builtin; refine nL rfl (.tmp 22) (.tmp 26) rfl B _ _ _ rfl rfl HO7.out w6.heap.size y rfl HR7.out HYO.out HLK.out hs7b ?_; intro sp8 cap8 w8 HO8 HB8 HG8))
     go_roundw
     case rel => exact ⟨k + 1, by omega, by go_num, by rw [PK.out]; exact HO8, HBR3.out.trans ((HB6.out.mono (by omega)).trans ((HB7.out.mono (by omega)).trans HB8.out))⟩
     case measure => simp [intOf]; omega
   ·obtain rfl : k = m := by omega
    have hd1 : decide ((k : Int) < (k : Int)) = false := by simp
    have HTK : Hid ((l.map pg).take k = l.map pg) := by show _ = _; rw [List.take_of_length_le]; rw [List.length_map, HL.out.len]; omega
    rw [HTK.out] at HOW
    obtain ⟨sp', cap', rfl⟩ := aZ HOW.out.1
    go_wp2_with fail
    go_ret
    exact ⟨sp', cap', by rw [PL.out]; rfl, by rw [PL.out]; exact HOW.out.base hBW, MW.out.trans (HBR.out.mono hBW)⟩
theorem yG : ∀ (a b : List Int), (∀ x ∈ a, 0 ≤ x ∧ x < 256) → (∀ x ∈ b, 0 ≤ x ∧ x < 256) → a.length = b.length → (Lib.compareBytes (Lib.bytesOf a) (Lib.bytesOf b) = 0 ↔ a = b)
 | [], [], _, _, _ => ⟨fun _ => rfl, fun _ => rfl⟩
 | [], y :: b, _, _, h => by simp at h
 | x :: a, [], _, _, h => by simp at h
 | x :: a, y :: b, ha, hb, h => by
   have ih := yG a b (fun z hz => ha z (by simp [hz])) (fun z hz => hb z (by simp [hz])) (by simpa using h)
   have h1 := ha x (by simp); have h2 := hb y (by simp)
   have n1 : (UInt8.ofNat x.toNat).toNat = x.toNat := by simp; omega
   have n2 : (UInt8.ofNat y.toNat).toNat = y.toNat := by simp; omega
   have hlt : ((UInt8.ofNat x.toNat) < (UInt8.ofNat y.toNat)) ↔ x < y := by rw [UInt8.lt_iff_toNat_lt, n1, n2]; omega
   have hgt : ((UInt8.ofNat y.toNat) < (UInt8.ofNat x.toNat)) ↔ y < x := by rw [UInt8.lt_iff_toNat_lt, n1, n2]; omega
   show (if UInt8.ofNat x.toNat < UInt8.ofNat y.toNat then (-1 : Int) else if UInt8.ofNat y.toNat < UInt8.ofNat x.toNat then 1 else Lib.compareBytes (Lib.bytesOf a) (Lib.bytesOf b)) = 0 ↔ _
   by_cases c1 : x < y
   ·rw [if_pos (hlt.2 c1)]
    exact ⟨fun h => by omega, fun h => by injection h with h _; omega⟩
   ·rw [if_neg (fun h => c1 (hlt.1 h))]
    by_cases c2 : y < x
    ·rw [if_pos (hgt.2 c2)]
     exact ⟨fun h => by omega, fun h => by injection h with h _; omega⟩
    ·rw [if_neg (fun h => c2 (hgt.1 h)), ih]
     have hxy : x = y := by omega
     exact ⟨fun h => by rw [hxy, h], fun h => by injection h⟩
theorem LW {a b : List Int} (ha : D32 a) (hb : D32 b) : decide (AN a b = 0) = decide (a = b) :=
 decide_eq_decide.2 (yG a b (fun x hx => ha.2 x hx) (fun x hx => hb.2 x hx) (by rw [ha.1, hb.1]))
theorem LU {a b : List Int} (ha : D32 a) (hb : D32 b) : decide (AN a b < 0) = dls a b := sE a b (fun x hx => ha.2 x hx) (fun x hx => hb.2 x hx)
def lZ (L : List Pg) : Prop := L.Pairwise fun x y => dls (idP x) (idP y) = true
def LoP (L : List Pg) (p : Pg) (i : Nat) : Prop := ∀ m y, m < i → L[m]? = some y → dls (idP y) (idP p) = true
def HiP (L : List Pg) (p : Pg) (j : Nat) : Prop := ∀ m y, j ≤ m → L[m]? = some y → dls (idP y) (idP p) = false
def DH (L : List Pg) (p : Pg) (k : Nat) : Bool := match L[k]? with
 | some y => decide (idP y = idP p)
 | none => false
theorem mC {L : List Pg} (h : lZ L) {i j : Nat} (hij : i < j) {x y : Pg} (hx : L[i]? = some x) (hy : L[j]? = some y) : dls (idP x) (idP y) = true := by
 obtain ⟨hi, ex⟩ := List.getElem?_eq_some_iff.1 hx
 obtain ⟨hj, ey⟩ := List.getElem?_eq_some_iff.1 hy
 have := (List.pairwise_iff_getElem.1 h) i j hi hj hij
 rw [ex, ey] at this
 exact this
theorem LoP.up {L : List Pg} {p x : Pg} {h : Nat} (hs : lZ L) (hx : L[h]? = some x) (hc : dls (idP x) (idP p) = true) : LoP L p (h + 1) := fun m y hm hy => by
 by_cases e : m = h
 ·subst e; rw [hx] at hy; injection hy with hy; rw [← hy]; exact hc
 ·exact gJ (mC hs (by omega) hy hx) hc
theorem HiP.dn {L : List Pg} {p x : Pg} {h : Nat} (hs : lZ L) (hx : L[h]? = some x) (hc : dls (idP x) (idP p) = false) : HiP L p h := fun m y hm hy => by
 by_cases e : m = h
 ·subst e; rw [hx] at hy; injection hy with hy; rw [← hy]; exact hc
 ·rw [Bool.eq_false_iff]; intro hk
  rw [gJ (mC hs (by omega) hx hy) hk] at hc; cases hc
theorem IM {L : List Pg} (h : vsB L = true) {j : Nat} {x y : Pg} (hy : L[j]? = some y) (hx : L[j + 1]? = some x) : dls (idP y) (idP x) = true := by
 unfold vsB at h
 have h1 := List.all_eq_true.1 h (j + 1) (List.mem_range.2 (List.getElem?_eq_some_iff.1 hx).1)
 unfold rD at h1
 simp only [hx, hy, Bool.and_eq_true] at h1
 exact h1.2
theorem kS {L : List Pg} (h : vsB L = true) : lZ L := by
 have hb : ∀ d i x y, L[i]? = some x → L[i + 1 + d]? = some y → dls (idP x) (idP y) = true := by
  intro d
  induction d with
  | zero => intro i x y hx hy; exact IM h hx hy
  | succ d ih =>
    intro i x y hx hy
    have hlt := (List.getElem?_eq_some_iff.1 hy).1
    obtain ⟨z, hz⟩ : ∃ z, L[i + 1 + d]? = some z := ⟨L[i + 1 + d]'(by omega), List.getElem?_eq_getElem _⟩
    exact gJ (ih i x z hx hz) (IM h hz hy)
 unfold lZ
 rw [List.pairwise_iff_getElem]
 intro i j hi hj hij
 exact hb (j - i - 1) i _ _ (List.getElem?_eq_getElem hi) (by rw [show i + 1 + (j - i - 1) = j by omega]; exact List.getElem?_eq_getElem hj)
theorem vE {t : ByteArray} {b : List UInt8} {L : List Pg} (h : eY t b L = true) : vsB L = true := by
 unfold eY at h
 simp only [Bool.and_eq_true, decide_eq_true_eq] at h
 exact h.2.2.2
theorem BL {w : World} {B : Nat} {sp : Option Addr} {n cap : Nat} {l : List Sg} (h : SgsIn w B sp n cap l) {k : Nat} (hk : k < n) : ∃ (x : Sg) (b off : Nat), l[k]? = some x ∧ OkG x ∧ SgD w B x ∧ sp = some ⟨b, off, none⟩ ∧ b < B ∧ n ≤ cap ∧ w.rangeAt b (off + k * 20) (bD x) := by
 obtain ⟨b, off, e, hb, hc, hr⟩ := h.cells (by omega)
 have hkl : k < l.length := by rw [h.len]; exact hk
 exact ⟨l[k], b, off, List.getElem?_eq_getElem hkl, h.ok _ (List.getElem_mem hkl), h.dat _ (List.getElem_mem hkl), e, hb, hc, hr k _ (List.getElem?_eq_getElem hkl)⟩
theorem IY {l : List Sg} {k : Nat} {x : Sg} (h : l[k]? = some x) : (l.map pg)[k]? = some (pg x) := by rw [List.getElem?_map, h]; rfl
theorem MC (sp : Option Addr) (n cap : Nat) (l : List Sg) (z : Sg) (w : World) (hl : SgsIn w w.heap.size sp n cap l) (hs : lZ (l.map pg)) (hz : OkG z) (hn : n ≤ 1000000) (hk : KayIn w) (hk0 : 1 < w.heap.size) :
 Calls Tryz.prog 59 #[.slice sp n cap, .agg (bD z).toArray, .func (.func 60) #[] #[]] w fun e w' => ∃ k : Nat, k ≤ n ∧ e = .returned (.tuple #[.int .i64 k, .bool (DH (l.map pg) (pg z) k)]) ∧ LoP (l.map pg) (pg z) k ∧ HiP (l.map pg) (pg z) k ∧ Below w.heap.size w w' := by
 have HP := zh hl; have HS := zh hs; have HZO := zh hz; have HK := zh hk
 have HIX := zh (fM hz)
 have HNW := zh (GB.new w z).all
 have HBZ := zh ((Below.refl w.heap.size w).alloc (Nat.le_refl _) (.cells (bD z).toArray 62))
 have HSZ := zh (show w.heap.size + 1 ≤ (w.alloc (.cells (bD z).toArray 62)).heap.size by simp)
 clear hl hs hz hk
 go_enter Tryz.func59, Tryz.ntmps59
 go_wp2_with fail
 generalize World.alloc w (.cells (bD z).toArray 62) = wz at *
 go_loopw [9, 10] (fun v9 v10 wr => ∃ i j : Nat, v9 = .int .i64 i ∧ v10 = .int .i64 j ∧ i ≤ j ∧ j ≤ n ∧ Hid (LoP (l.map pg) (pg z) i ∧ HiP (l.map pg) (pg z) j ∧ Below (w.heap.size + 1) wz wr)) (fun v9 v10 _ => (intOf v10).toNat - (intOf v9).toNat)
 case atStart => exact ⟨0, n, rfl, rfl, Nat.zero_le _, Nat.le_refl _, fun m y h => absurd h (by omega), fun m y h hy => absurd (List.getElem?_eq_some_iff.1 hy).1 (by have := HP.out.len; rw [List.length_map]; omega), Below.refl _ _⟩
 case round =>
  obtain ⟨i, j, rfl, rfl, hij, hjn, H⟩ := hrel
  have HLO := zh H.out.1; have HHI := zh H.out.2.1; have HB := zh H.out.2.2
  clear H
  by_cases hlt : i < j
  ·have hd1 : decide ((i : Int) < (j : Int)) = true := by simp; omega
   obtain ⟨h, hm1, hm2⟩ : ∃ h : Nat, 2 * h ≤ i + j ∧ i + j ≤ 2 * h + 1 := ⟨(i + j) / 2, by omega, by omega⟩
   have q5 : ((i : Int) + (j : Int)) / 2 = (h : Int) := by omega
   have p1 : (0 : Int) ≤ (h : Int) := by omega
   have p2 : (h : Int) < (n : Int) := by omega
   obtain ⟨x, xb, xoff, hxk, hx32, hxd, rfl, hxb, hxc, hxr⟩ := BL HP.out (show h < n by omega)
   have HXK := zh (IY hxk); have HX32 := zh hx32; have HXR := zh hxr; have HXB := zh hxb; have HIY := zh (fM hx32)
   have hlt0 := LU (iQ (pg x)) (iQ (pg z))
   clear hxk hx32 hxr hxb hxd
   have HCC : Hid (∀ w', Below (w.heap.size + 1) wz w' → Calls Tryz.prog 60 #[.agg (bD x).toArray, .agg (bD z).toArray] w' fun e w'' => e = .returned (.int .i64 (AN (idP (pg x)) (idP (pg z)))) ∧ Below w'.heap.size w' w'') := fun w' hb => gK x z w' HX32.out HZO.out (HK.out.below (HBZ.out.trans (hb.mono (Nat.le_succ _))) hk0) (by have := hb.size; have := HSZ.out; omega)
   generalize AN (idP (pg x)) (idP (pg z)) = q at *
   cases hc : dls (idP (pg x)) (idP (pg z))
   ·have hlt1 := hlt0
    rw [hc] at hlt1
    go_wp2_with fail
    refine wp_region_held_drew (S := fun w' => Below (w.heap.size + 1) wz w') (by kernel_rfl) HB.out.drew (fun hHeld => ?_)
    refine zv 0 rfl ?_
    refine zv 1 rfl ?_
    refine zv 2 rfl ?_
    refine zv 3 rfl ?_
    refine' zk 4 rfl (v := _) (yieldsIf_load_mid (by rfl) _ _ rfl _ _ rfl _ _ ?hS4n36 Tryz.underlying62 rfl HIY.out) ?rest4n36
    case hS4n36 =>
     intro w' hSw
     exact (aA HXR.out (HBZ.out.trans (hSw.mono (Nat.le_succ _))) HXB.out)
    try simp only [Act.put, zA, zB, zC, zD, zE, zF]
    refine' zk 5 rfl (v := _) (yieldsIf_load_mid (by rfl) _ _ rfl _ _ rfl _ _ ?hS5n37 Tryz.underlying62 rfl HIX.out) ?rest5n37
    case hS5n37 =>
     intro w' hSw
     exact (aA HNW.out hSw (Nat.lt_succ_self _))
    try simp only [Act.put, zA, zB, zC, zD, zE, zF]
    refine zr 6 rfl (fun K hK => ?_)
    go_simp
    with_reducible refine (HCC.out _ HB.out.drew).mono ?_
    rintro e wd ⟨rfl, hb3⟩
    have HBD := zh (HB.out.drew.trans (hb3.mono (Nat.le_trans HSZ.out HB.out.size)))
    go_wp2_with fail
    refine hK.out _ _ HBD.out fun _ => ?_; clear hK K
    try simp only [Act.put, zA, zB, zC, zD, zE, zF]
    refine zv 7 rfl ?_
    refine zd ?_ _
    clear hHeld
    go_wp2_with fail
    go_roundw
    case rel => exact ⟨i, h, rfl, rfl, by omega, by omega, HLO.out, HiP.dn HS.out HXK.out hc, HBD.out⟩
    case measure => simp [intOf]; omega
   ·have hlt1 := hlt0
    rw [hc] at hlt1
    go_wp2_with fail
    refine wp_region_held_drew (S := fun w' => Below (w.heap.size + 1) wz w') (by kernel_rfl) HB.out.drew (fun hHeld => ?_)
    refine zv 0 rfl ?_
    refine zv 1 rfl ?_
    refine zv 2 rfl ?_
    refine zv 3 rfl ?_
    refine' zk 4 rfl (v := _) (yieldsIf_load_mid (by rfl) _ _ rfl _ _ rfl _ _ ?hS4n43 Tryz.underlying62 rfl HIY.out) ?rest4n43
    case hS4n43 =>
     intro w' hSw
     exact (aA HXR.out (HBZ.out.trans (hSw.mono (Nat.le_succ _))) HXB.out)
    try simp only [Act.put, zA, zB, zC, zD, zE, zF]
    refine' zk 5 rfl (v := _) (yieldsIf_load_mid (by rfl) _ _ rfl _ _ rfl _ _ ?hS5n44 Tryz.underlying62 rfl HIX.out) ?rest5n44
    case hS5n44 =>
     intro w' hSw
     exact (aA HNW.out hSw (Nat.lt_succ_self _))
    try simp only [Act.put, zA, zB, zC, zD, zE, zF]
    refine zr 6 rfl (fun K hK => ?_)
    go_simp
    with_reducible refine (HCC.out _ HB.out.drew).mono ?_
    rintro e wd ⟨rfl, hb3⟩
    have HBD := zh (HB.out.drew.trans (hb3.mono (Nat.le_trans HSZ.out HB.out.size)))
    go_wp2_with fail
    refine hK.out _ _ HBD.out fun _ => ?_; clear hK K
    try simp only [Act.put, zA, zB, zC, zD, zE, zF]
    refine zv 7 rfl ?_
    refine zd ?_ _
    clear hHeld
    go_wp2_with fail
    go_roundw
    case rel => exact ⟨h + 1, j, by go_num, rfl, by omega, hjn, LoP.up HS.out HXK.out hc, HHI.out, HBD.out⟩
    case measure => simp [intOf]; omega
  ·have hd1 : decide ((i : Int) < (j : Int)) = false := by simp; omega
   obtain rfl : i = j := by omega
   by_cases hin : i < n
   ·have hd2 : decide ((i : Int) < (n : Int)) = true := by simp; omega
    have p1 : (0 : Int) ≤ (i : Int) := by omega
    have p2 : (i : Int) < (n : Int) := by omega
    obtain ⟨x, xb, xoff, hxk, hx32, hxd, rfl, hxb, hxc, hxr⟩ := BL HP.out hin
    have HXR := zh hxr; have HXB := zh hxb; have HIY := zh (fM hx32)
    have HF : Hid (DH (l.map pg) (pg z) i = decide (idP (pg x) = idP (pg z))) := by show _ = _; unfold DH; rw [IY hxk]
    have hz0 := LW (iQ (pg x)) (iQ (pg z))
    rw [← HF.out] at hz0
    have hz : (AN (idP (pg x)) (idP (pg z)) == 0) = DH (l.map pg) (pg z) i := by rw [← hz0]; rfl
    have HX32 := zh hx32
    have HCC : Hid (∀ w', Below (w.heap.size + 1) wz w' → Calls Tryz.prog 60 #[.agg (bD x).toArray, .agg (bD z).toArray] w' fun e w'' => e = .returned (.int .i64 (AN (idP (pg x)) (idP (pg z)))) ∧ Below w'.heap.size w' w'') := fun w' hb => gK x z w' HX32.out HZO.out (HK.out.below (HBZ.out.trans (hb.mono (Nat.le_succ _))) hk0) (by have := hb.size; have := HSZ.out; omega)
    clear hxk hx32 hxr hxb hxd hz0 HF
    generalize AN (idP (pg x)) (idP (pg z)) = q at *
    obtain ⟨f, hf⟩ : ∃ f, DH (l.map pg) (pg z) i = f := ⟨_, rfl⟩
    rw [hf] at hz
    have HF := zh hf
    clear hf
    go_wp2_with fail
    refine wp_region_held_drew (S := fun w' => Below (w.heap.size + 1) wz w') (by kernel_rfl) HB.out.drew (fun hHeld => ?_)
    refine zv 0 rfl ?_
    refine zv 1 rfl ?_
    refine zv 2 rfl ?_
    refine zv 3 rfl ?_
    refine zv 4 rfl ?_
    refine zv 5 rfl ?_
    refine zv 6 rfl ?_
    refine zv 7 rfl ?_
    refine zv 8 rfl ?_
    refine' zk 9 rfl (v := _) (yieldsIf_load_mid (by rfl) _ _ rfl _ _ rfl _ _ ?hS9n10 Tryz.underlying62 rfl HIY.out) ?rest9n10
    case hS9n10 =>
     intro w' hSw
     exact (aA HXR.out (HBZ.out.trans (hSw.mono (Nat.le_succ _))) HXB.out)
    try simp only [Act.put, zA, zB, zC, zD, zE, zF]
    refine' zk 10 rfl (v := _) (yieldsIf_load_mid (by rfl) _ _ rfl _ _ rfl _ _ ?hS10n11 Tryz.underlying62 rfl HIX.out) ?rest10n11
    case hS10n11 =>
     intro w' hSw
     exact (aA HNW.out hSw (Nat.lt_succ_self _))
    try simp only [Act.put, zA, zB, zC, zD, zE, zF]
    refine zr 11 rfl (fun K hK => ?_)
    go_simp
    with_reducible refine (HCC.out _ HB.out.drew).mono ?_
    rintro e wd ⟨rfl, hb3⟩
    have HBD := zh (HB.out.drew.trans (hb3.mono (Nat.le_trans HSZ.out HB.out.size)))
    go_wp2_with fail
    refine hK.out _ _ HBD.out fun _ => ?_; clear hK K
    try simp only [Act.put, zA, zB, zC, zD, zE, zF]
    refine zv 12 rfl ?_
    refine zv 13 rfl ?_
    refine zv 14 rfl ?_
    refine zv 15 rfl ?_
    refine zd ?_ _
    clear hHeld
    go_wp2_with fail
    go_ret2
    exact ⟨i, hjn, by rw [HF.out]; rfl, HLO.out, HHI.out, HBZ.out.trans (HBD.out.mono (Nat.le_succ _))⟩
   ·obtain rfl : i = n := by omega
    have hd2 : decide ((i : Int) < (i : Int)) = false := by simp
    have HF : Hid (DH (l.map pg) (pg z) i = false) := by show _ = _; unfold DH; rw [List.getElem?_eq_none (by rw [List.length_map, HP.out.len]; omega)]
    go_wp2_with fail
    refine wp_region_held_drew (S := fun w' => Below (w.heap.size + 1) wz w') (by kernel_rfl) HB.out.drew (fun hHeld => ?_)
    refine zv 0 rfl ?_
    refine zv 1 rfl ?_
    refine zv 2 rfl ?_
    refine zv 3 rfl ?_
    refine zv 4 rfl ?_
    refine zk 5 rfl (v := undef) (.inr ⟨by rfl, rfl⟩) ?_; try simp only [Act.put, zA, zB, zC, zD, zE, zF]
    refine zk 6 rfl (v := undef) (.inr ⟨by rfl, rfl⟩) ?_; try simp only [Act.put, zA, zB, zC, zD, zE, zF]
    refine zk 7 rfl (v := undef) (.inr ⟨by rfl, rfl⟩) ?_; try simp only [Act.put, zA, zB, zC, zD, zE, zF]
    refine zk 8 rfl (v := undef) (.inr ⟨by rfl, rfl⟩) ?_; try simp only [Act.put, zA, zB, zC, zD, zE, zF]
    refine zk 9 rfl (v := undef) (.inr ⟨by rfl, rfl⟩) ?_; try simp only [Act.put, zA, zB, zC, zD, zE, zF]
    refine zk 10 rfl (v := undef) (.inr ⟨by rfl, rfl⟩) ?_; try simp only [Act.put, zA, zB, zC, zD, zE, zF]
    refine zk 11 rfl (v := undef) (.inr ⟨by rfl, rfl⟩) ?_; try simp only [Act.put, zA, zB, zC, zD, zE, zF]
    refine zk 12 rfl (v := undef) (.inr ⟨by rfl, rfl⟩) ?_; try simp only [Act.put, zA, zB, zC, zD, zE, zF]
    refine zv 13 rfl ?_
    refine zv 14 rfl ?_
    refine zv 15 rfl ?_
    refine zd ?_ _
    clear hHeld
    go_wp2_with fail
    go_ret2
    exact ⟨i, hjn, by rw [HF.out]; rfl, HLO.out, HHI.out, HBZ.out.trans (HB.out.drew.mono (Nat.le_succ _))⟩
theorem tN (sp : Option Addr) (n cap : Nat) (l : List Sg) (z : Sg) (w : World) (hl : SgsIn w w.heap.size sp n cap l) (hs : lZ (l.map pg)) (hz : OkG z) (hn : n ≤ 1000000) (hk : KayIn w) (hk0 : 1 < w.heap.size) :
 Calls Tryz.prog 26 #[.slice sp n cap, .agg (bD z).toArray] w fun e w' => ∃ k : Nat, k ≤ n ∧ e = .returned (.tuple #[.int .i64 k, .bool (DH (l.map pg) (pg z) k)]) ∧ LoP (l.map pg) (pg z) k ∧ HiP (l.map pg) (pg z) k ∧ Below w.heap.size w w' := by
 have HL := zh hl; have HS := zh hs; have HZO := zh hz; have HK := zh hk
 have HIX := zh (eM hz)
 have HNW := zh (GB.new w z)
 have HBZ := zh ((Below.refl w.heap.size w).alloc (Nat.le_refl _) (.cells (bD z).toArray 62))
 clear hl hs hz hk
 go_enter Tryz.func26, Tryz.ntmps26
 go_upto_region 1 with fail
 generalize World.alloc w (.cells (bD z).toArray 62) = wz at *
 have HCB := zh (MC sp n cap l z wz (HL.out.up HBZ.out (Nat.le_refl _)) HS.out HZO.out hn (HK.out.below HBZ.out hk0) (by have := HBZ.out.size; omega))
 go_wp2_with (refine wpList_load_row rfl 62 _ rfl w.heap.size rfl 62 _ (0, 0) _ HNW.out Tryz.underlying62 rfl HIX.out ?_)
 refine HCB.out.mono ?_
 rintro e w1 ⟨k, hk, rfl, hlo, hhi, hb⟩
 have HLO := zh hlo; have HHI := zh hhi; have HB := zh hb
 clear hlo hhi hb
 go_wp2_with fail
 go_ret2
 exact ⟨k, hk, rfl, HLO.out, HHI.out, HBZ.out.trans (HB.out.mono HBZ.out.size)⟩
end Go.Proofs.YtcligodahogpkaaGreatDoor
