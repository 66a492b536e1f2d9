/-
  The walks of snapshot.Lookup and of the reference's Make (conditions: digests of 32 bytes, at most 1000 entries).
-/
import Derived.Test.YtkookkhlgllneaaDoorMakA
import Derived.Test.YtkookkhlgllneaaDoorGd
import Derived.Test.YtkookkhlgllneaaDoorGe
namespace Go.Proofs.YtkookkhlgllneaaDoor
open Go.RowKit

set_option maxRecDepth 100000 in
set_option maxHeartbeats 1000000 in
theorem Lookup_any (sp : Option Addr) (n cap : Nat) (l : List En) (p : ByteArray) (w : World) (hl : EnsIn w w.heap.size sp n cap l) (hn : n ≤ 1000000) :
    Calls Tryd.prog 14 #[.slice sp n cap, .string p] w (LookRes w (fe l p)) := by
  have HL := Lib.hid hl; clear hl
  have HI0 : Hid ((Tryd.prog.info? 28).map (·.size) = some (zed.map (Value.int .u8)).toArray.size) := by show _ = _; rw [List.size_toArray]; exact info_d D32.zed
  have HI0s : Hid (32 = (zed.map (Value.int .u8)).toArray.size) := by show _ = _; rfl
  go_enter Tryd.func14, Tryd.ntmps14
  go_wp2_with fail
  generalize hw1 : World.alloc w _ = w1
  have hr1 : w1.heap[w.heap.size]? = some (.cells (Array.replicate 32 (Value.int .u8 0)) 28 (0, 0)) := by rw [← hw1]; exact heap_alloc_new _ _
  have hb1 : Below w.heap.size w w1 := by rw [← hw1]; exact (Below.refl _ _).alloc (Nat.le_refl _) _
  have HR1 := Lib.hid hr1; have HB1 := Lib.hid hb1; have HLT1 := Lib.hid (Array.getElem?_eq_some_iff.1 hr1).1
  clear hw1 hr1 hb1
  go_loopw [10] (fun i wr => ∃ k : Nat, k ≤ n ∧ i = .int .i64 k ∧ Hid ((l.take k).find? (fun x => decide (x.p = p)) = none) ∧ Hid (Below w1.heap.size w1 wr)) (fun i _ => n - (intOf i).toNat)
  case atStart => exact ⟨0, Nat.zero_le _, rfl, rfl, Below.refl _ _⟩
  case round =>
  obtain ⟨k, hk, rfl, HA, hbe⟩ := hrel
  have HRr := Lib.hid ((hbe.out.block w.heap.size HLT1.out).trans HR1.out)
  have HBr := Lib.hid (HB1.out.trans (hbe.out.mono HB1.out.size))
  have hbs := HBr.out.size
  have hbs1 := hbe.out.size
  have hltr : w.heap.size < wr.heap.size := by have := HLT1.out; omega
  by_cases hlt : k < n
  · have hd : decide ((k : Int) < (n : Int)) = true := by simp; omega
    obtain ⟨x, hx⟩ : ∃ x, l[k]? = some x := ⟨l[k]'(by have := HL.out.len; omega), List.getElem?_eq_getElem _⟩
    obtain ⟨b, off, rfl, hbB, hcap, hr⟩ := HL.out.cells (by omega)
    have hok := HL.out.ok x (List.mem_of_getElem? hx)
    have HR := Lib.hid (range_belowS (hr k x hx) HBr.out hbB)
    have HI := Lib.hid (info_e hok); have HOX := Lib.hid hok
    have HS : Hid (33 = (enL x).toArray.size) := by show _ = _; rw [List.size_toArray, enL_length hok]
    have HI1 : Hid ((Tryd.prog.info? 28).map (·.size) = some (x.d.map (Value.int .u8)).toArray.size) := by show _ = _; rw [List.size_toArray]; exact info_d HOX.out
    have HI1s : Hid (32 = (x.d.map (Value.int .u8)).toArray.size) := by show _ = _; rw [List.size_toArray]; simpa using (show 32 = x.d.length from HOX.out.1.symm)
    have p1 : (0 : Int) ≤ (k : Int) := by omega
    have p2 : (k : Int) < (n : Int) := by omega
    clear hr hok
    by_cases hxe : x.p = p
    · have HF : Hid (fe l p = some x) := find_take_some HA.out hx hxe
      have hte : (x.p.toList == p.toList) = true := by rw [hxe]; simp
      clear hx hxe
      go_wp2_with (first
        | (refine wpList_load_mid rfl 70 _ rfl b (off + k * 33) rfl _ _ HR.out Tryd.underlying70 rfl HI.out ?_)
        | (refine wpList_store_row rfl 70 _ _ rfl wr.heap.size _ rfl rfl 70 _ (heap_alloc_new wr _) (by simpa using HI.out) (by simpa using HS.out) (Array.all_eq_true_iff_forall_mem.2 (by simpa using enL_one x)) ?_; rw [setRow_new]; generalize hw2 : World.alloc wr _ = w2; have he2 : EnB w2 wr.heap.size x := (by rw [← hw2]; exact heap_alloc_new _ _); have hb2 : Below wr.heap.size wr w2 := (by rw [← hw2]; exact (Below.refl _ _).alloc (Nat.le_refl _) _); have hp2 := he2.p; have HE2 := Lib.hid he2; have HB2 := Lib.hid (HBr.out.trans (hb2.mono hbs)); have HR2 := Lib.hid ((hb2.block w.heap.size hltr).trans HRr.out); clear hw2 he2 hb2)
        | (refine wpList_load_mid rfl 28 _ rfl wr.heap.size 1 rfl _ _ (EnB.d HE2.out) Tryd.underlying28 rfl (info_d HOX.out) ?_)
        | (refine wpList_store_row rfl 28 _ _ rfl w.heap.size _ rfl rfl 28 _ HR2.out HI1.out ((rfl : ((Array.replicate 32 (Value.int .u8 0))).size = 32).trans HI1s.out) (dgA_one x.d) ?_; have hr3 := setRow_heap _ _ _ (x.d.map (Value.int .u8)).toArray _ _ HR2.out; have hb3 := below_setRow HB2.out (Nat.le_refl w.heap.size) (x.d.map (Value.int .u8)).toArray; generalize World.setRow _ _ _ = w3 at hr3 hb3 ⊢; have HR3 := Lib.hid hr3; have HB3 := Lib.hid hb3; clear hr3 hb3))
      refine bodyPost_ret (results_row_tmpS (P := Tryd.prog) rfl _ _ w.heap.size 28 _ (0, 0) _ rfl HR3.out Tryd.underlying28 rfl HI1.out) rfl ?_
      rw [HF.out]
      exact ⟨rfl, HB3.out⟩
    · have HF := Lib.hid (find_take_none HA.out hx hxe)
      have hte : (x.p.toList == p.toList) = false := by rw [beq_eq_false_iff_ne]; exact fun e => hxe (toList_inj e)
      clear hx hxe
      go_wp2_with (first
        | (refine wpList_load_mid rfl 70 _ rfl b (off + k * 33) rfl _ _ HR.out Tryd.underlying70 rfl HI.out ?_)
        | (refine wpList_store_row rfl 70 _ _ rfl wr.heap.size _ rfl rfl 70 _ (heap_alloc_new wr _) (by simpa using HI.out) (by simpa using HS.out) (Array.all_eq_true_iff_forall_mem.2 (by simpa using enL_one x)) ?_; rw [setRow_new]; generalize hw2 : World.alloc wr _ = w2; have he2 : EnB w2 wr.heap.size x := (by rw [← hw2]; exact heap_alloc_new _ _); have hb2 : Below wr.heap.size wr w2 := (by rw [← hw2]; exact (Below.refl _ _).alloc (Nat.le_refl _) _); have hp2 := he2.p; have HB2 := Lib.hid (hbe.out.trans (hb2.mono hbs1)); clear hw2 he2 hb2))
      go_roundw
      case rel => exact ⟨k + 1, by omega, by go_num, HF, HB2⟩
      case measure => simp [intOf]; omega
  · obtain rfl : k = n := by omega
    have hd : decide ((k : Int) < (k : Int)) = false := by simp
    have HF : Hid (fe l p = none) := by have := HA.out; rw [List.take_of_length_le (by rw [HL.out.len]; exact Nat.le_refl _)] at this; exact this
    go_wp2_with (refine wpList_store_row rfl 28 _ _ rfl w.heap.size (zed.map (Value.int .u8)).toArray rfl (by rfl) 28 _ HRr.out HI0.out ((rfl : ((Array.replicate 32 (Value.int .u8 0))).size = 32).trans HI0s.out) (dgA_one _) ?_; have hr2 := setRow_heap _ _ _ (zed.map (Value.int .u8)).toArray _ _ HRr.out; have hb2 := below_setRow HBr.out (Nat.le_refl w.heap.size) (zed.map (Value.int .u8)).toArray; generalize World.setRow _ _ _ = w2 at hr2 hb2 ⊢; have HR2 := Lib.hid hr2; have HB2 := Lib.hid hb2; clear hr2 hb2)
    refine bodyPost_ret (results_row_tmpS (P := Tryd.prog) rfl _ _ w.heap.size 28 _ (0, 0) _ rfl HR2.out Tryd.underlying28 rfl HI0.out) rfl ?_
    rw [HF.out]
    exact ⟨rfl, HB2.out⟩
theorem any_take_step {l : List En} {k : Nat} {x : En} (hx : l[k]? = some x) (h : (l.take k).any badE = false) : (l.take (k + 1)).any badE = badE x := by
  rw [List.take_add_one, hx, List.any_append, h]; simp
theorem any_stop {l : List En} {k : Nat} {x : En} (hx : l[k]? = some x) (h : badE x = true) : l.any badE = true := List.any_eq_true.2 ⟨x, List.mem_of_getElem? hx, h⟩
set_option maxRecDepth 100000 in
set_option maxHeartbeats 2000000 in
theorem refMake_any (sp : Option Addr) (n cap : Nat) (l : List En) (w : World) (hl : EnsIn w w.heap.size sp n cap l) (hn : n ≤ 1000) :
    Calls Tryd.prog 13 #[.slice sp n cap] w (ResR w (makeL l)) := by
  have HL := Lib.hid hl; clear hl
  have HLN := Lib.hid HL.out.len
  by_cases h64 : n ≤ 64
  case neg =>
    have hd : decide ((n : Int) > 64) = true := by simp; omega
    have HM := Lib.hid (makeL_long (l := l) (by rw [HLN.out]; exact h64))
    clear h64
    go_enter Tryd.func13, Tryd.ntmps13
    go_wp2_with fail
    go_ret2
    exact resR_error HM.out rfl (Below.refl _ _)
  have hd : decide ((n : Int) > 64) = false := by simp; omega
  have HH : Hid (l.length ≤ 64) := by show _ ≤ _; rw [HLN.out]; exact h64
  go_enter Tryd.func13, Tryd.ntmps13
  go_wp2_with fail
  clear hd
  go_loopw [4] (fun i wr => ∃ k : Nat, k ≤ n ∧ i = .int .i64 k ∧ Hid ((l.take k).any badE = false) ∧ Hid (Below w.heap.size w wr)) (fun i _ => n - (intOf i).toNat)
  case atStart => exact ⟨0, Nat.zero_le _, rfl, rfl, Below.refl _ _⟩
  case round =>
  obtain ⟨k, hk, rfl, HA, hbe⟩ := hrel
  by_cases hlt : k < n
  · have hd : decide ((k : Int) < (n : Int)) = true := by simp; omega
    obtain ⟨x, hx⟩ : ∃ x, l[k]? = some x := ⟨l[k]'(by have := HL.out.len; omega), List.getElem?_eq_getElem _⟩
    obtain ⟨b, off, rfl, hbB, hcap, hr⟩ := HL.out.cells (by omega)
    have hok := HL.out.ok x (List.mem_of_getElem? hx)
    have HR := Lib.hid (range_belowS (hr k x hx) hbe.out hbB)
    have HI := Lib.hid (info_e hok)
    have hfi := fine_any x wr hok
    have p1 : (0 : Int) ≤ (k : Int) := by omega
    have p2 : (k : Int) < (n : Int) := by omega
    have HX := Lib.hid hx
    cases hbx : badE x
    · rw [hbx] at hfi
      have HFI := Lib.hid (show Calls Tryd.prog 55 #[.agg (enL x).toArray] wr fun e w' => e = .returned (.bool true) ∧ Below wr.heap.size wr w' from hfi)
      have HT : Hid ((l.take (k + 1)).any badE = false) := by show _ = _; rw [any_take_step hx HA.out, hbx]
      clear hr hx hok hfi hbx
      go_wp2_with (refine wpList_load_mid rfl 70 _ rfl b (off + k * 33) rfl _ _ HR.out Tryd.underlying70 rfl HI.out ?_)
      refine HFI.out.mono ?_
      rintro e w2 ⟨rfl, hb2⟩
      have HB2 := Lib.hid (hbe.out.trans (hb2.mono hbe.out.size)); clear hb2
      go_wp2_with fail
      go_roundw
      case rel => exact ⟨k + 1, by omega, by go_num, HT, HB2⟩
      case measure => simp [intOf]; omega
    · rw [hbx] at hfi
      have HFI := Lib.hid (show Calls Tryd.prog 55 #[.agg (enL x).toArray] wr fun e w' => e = .returned (.bool false) ∧ Below wr.heap.size wr w' from hfi)
      have HM := Lib.hid (makeL_bad HH.out (any_stop hx hbx))
      clear hr hx hok hfi hbx
      go_wp2_with (refine wpList_load_mid rfl 70 _ rfl b (off + k * 33) rfl _ _ HR.out Tryd.underlying70 rfl HI.out ?_)
      refine HFI.out.mono ?_
      rintro e w2 ⟨rfl, hb2⟩
      have HB2 := Lib.hid (hbe.out.trans (hb2.mono hbe.out.size)); clear hb2
      go_wp2_with fail
      go_ret2
      exact resR_error HM.out rfl HB2.out
  · obtain rfl : k = n := by omega
    have hd : decide ((k : Int) < (k : Int)) = false := by simp
    have HBD : Hid (l.any badE = false) := by have := HA.out; rw [List.take_of_length_le (by rw [HL.out.len]; exact Nat.le_refl _)] at this; exact this
    go_wp2_with fail
    clear hd HA
    have HBz := hbe
    go_loopw [5, 6] (fun v i wr => ∃ (q : Nat) (sp6 : Option Addr) (cap6 : Nat), q ≤ k ∧ i = .int .i64 q ∧ v = .slice sp6 q cap6 ∧ Hid (OwnE wr w.heap.size (.slice sp6 q cap6) (insL (l.take q))) ∧ Hid (((l.take q).map En.p).Nodup) ∧ Hid (Below w.heap.size w wr)) (fun _ i _ => k - (intOf i).toNat)
    case atStart => exact ⟨0, _, _, Nat.zero_le _, rfl, rfl, OwnE.nil _ _, (by show List.Nodup _; simp), HBz.out⟩
    case round =>
    clear hbe HBz
    obtain ⟨q, sp6, cap6, hq, rfl, rfl, hown, HND, hbe⟩ := hrel
    have hbs := hbe.out.size
    by_cases hltq : q < k
    · have hd : decide ((q : Int) < (k : Int)) = true := by simp; omega
      obtain ⟨x, hx⟩ : ∃ x, l[q]? = some x := ⟨l[q]'(by have := HL.out.len; omega), List.getElem?_eq_getElem _⟩
      obtain ⟨b, off, rfl, hbB, hcap, hr⟩ := HL.out.cells (by omega)
      have hok := HL.out.ok x (List.mem_of_getElem? hx)
      have hxp := rngE_p (range_belowS (hr q x hx) hbe.out hbB)
      have HRY := Lib.hid (fun W (hb : Below w.heap.size w W) => range_belowS (hr q x hx) hb hbB)
      have HI := Lib.hid (info_e hok); have HOX := Lib.hid hok
      have HX := Lib.hid hx
      have HLQ : Hid ((insL (l.take q)).length = q) := by show _ = _; rw [insL_length, List.length_take]; have := HL.out.len; omega
      have hens := hown.out.ens HLQ.out
      have HLK := Lib.hid (rlook_any sp6 q cap6 (insL (l.take q)) x.p wr hens (by omega))
      have p1 : (0 : Int) ≤ (q : Int) := by omega
      have p2 : (q : Int) < (k : Int) := by omega
      clear hr hx hok hens
      go_wp2_with fail
      refine HLK.out.mono ?_
      rintro e w2 hres
      cases hfe : fe (insL (l.take q)) x.p with
      | some y =>
        rw [hfe] at hres
        obtain ⟨rfl, hb2⟩ := hres
        have hy := fe_some hfe
        have HM := Lib.hid (makeL_twice HH.out HBD.out (nodup_twice HX.out hy.1 hy.2))
        have hyd := insL_ok (fun z hz => HL.out.ok z (List.mem_of_mem_take hz)) y hy.1
        have HI1 : Hid ((Tryd.prog.info? 28).map (·.size) = some (y.d.map (Value.int .u8)).toArray.size) := by show _ = _; rw [List.size_toArray]; exact info_d hyd
        have HI1s : Hid (32 = (y.d.map (Value.int .u8)).toArray.size) := by show _ = _; rw [List.size_toArray]; simpa using (show 32 = y.d.length from hyd.1.symm)
        have HB2 := Lib.hid (hbe.out.trans (hb2.mono hbs)); clear hb2 hfe hy hyd
        go_wp2_with (refine wpList_store_row rfl 28 _ _ rfl w2.heap.size _ rfl rfl 28 _ (heap_alloc_new w2 _) HI1.out ((rfl : ((Array.replicate 32 (Value.int .u8 0))).size = 32).trans HI1s.out) (dgA_one _) ?_; rw [setRow_new]; generalize hw4 : World.alloc w2 _ = w4; have hb4 : Below w2.heap.size w2 w4 := (by rw [← hw4]; exact (Below.refl _ _).alloc (Nat.le_refl _) _); have HB4 := Lib.hid (HB2.out.trans (hb4.mono HB2.out.size)); clear hw4 hb4)
        go_ret2
        exact resR_error HM.out rfl HB4.out
      | none =>
        rw [hfe] at hres
        obtain ⟨rfl, hb2⟩ := hres
        have HND2 := Lib.hid (nodup_step HX.out HND.out (fun y hy => by
          have h1 : (insL (l.take q)).find? (fun z => decide (z.p = x.p)) = none := hfe
          have := List.find?_eq_none.1 h1 y hy
          simpa using this))
        have HST := Lib.hid (insL_step HX.out)
        have HI1 : Hid ((Tryd.prog.info? 28).map (·.size) = some (zed.map (Value.int .u8)).toArray.size) := by show _ = _; rw [List.size_toArray]; exact info_d D32.zed
        have HI1s : Hid (32 = (zed.map (Value.int .u8)).toArray.size) := by show _ = _; rfl
        have HO2 := Lib.hid (hown.out.below hb2)
        have HB2 := Lib.hid (hbe.out.trans (hb2.mono hbs)); clear hb2 hfe
        go_wp2_with (first
          | (refine wpList_store_row rfl 28 _ _ rfl w2.heap.size _ rfl rfl 28 _ (heap_alloc_new w2 _) HI1.out ((rfl : ((Array.replicate 32 (Value.int .u8 0))).size = 32).trans HI1s.out) (dgA_one _) ?_; rw [setRow_new]; generalize hw4 : World.alloc w2 _ = w4; have hb4 : Below w2.heap.size w2 w4 := (by rw [← hw4]; exact (Below.refl _ _).alloc (Nat.le_refl _) _); have HB4 := Lib.hid (HB2.out.trans (hb4.mono HB2.out.size)); have HO4 := Lib.hid (HO2.out.below hb4); clear hw4 hb4)
          | (refine wpList_load_mid rfl 70 _ rfl b (off + q * 33) rfl _ _ (HRY.out _ HB4.out) Tryd.underlying70 rfl HI.out ?_))
        have HNIL := Lib.hid HO4.out.nilcap
        refine (rinsert_any sp6 q cap6 (insL (l.take q)) x w4 (HO4.out.ens HLQ.out) HNIL.out HOX.out (by omega)).mono ?_
        rintro e w5 ⟨sp5, cap5, rfl, ho5, hb5⟩
        have HO5 := Lib.hid (ho5.base HB4.out.size)
        have HB6 := Lib.hid (HB4.out.trans (hb5.mono HB4.out.size)); clear ho5 hb5
        go_wp2_with fail
        go_roundw
        case rel => exact ⟨q + 1, sp5, cap5, by omega, by go_num, rfl, by show OwnE _ _ _ _; rw [HST.out]; exact HO5.out, HND2, HB6⟩
        case measure => simp [intOf]; omega
    · obtain rfl : q = k := by omega
      have hd : decide ((q : Int) < (q : Int)) = false := by simp
      have HT : Hid (l.take q = l) := by show _ = _; rw [List.take_of_length_le (by rw [HL.out.len]; exact Nat.le_refl _)]
      have HM := Lib.hid (makeL_good HH.out HBD.out (nodup_end HND.out (by rw [HL.out.len]; exact Nat.le_refl _)))
      have HE : Hid (EnsIn wr wr.heap.size sp6 q cap6 (insL l)) := by
        have h := hown.out
        rw [HT.out] at h
        exact h.ens (by rw [insL_length]; exact HL.out.len)
      go_wp2_with fail
      go_ret2
      exact resR_ok HM.out rfl HE.out hbe.out
end Go.Proofs.YtkookkhlgllneaaDoor
