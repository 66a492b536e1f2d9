/-
  Stores: the walk of store.Sweep.
-/
import Derived.Test.YtdjknefbaclleaaGreatDoorSweA
import Derived.Test.YtdjknefbaclleaaGreatDoorGt
import Derived.Test.YtdjknefbaclleaaGreatDoorGu
namespace Go.Proofs.YtdjknefbaclleaaGreatDoor
open Go.RowKit Go.Sort

/-- the blobs whose digests are on a list -/
def keptL (l : List Bl) (P : List (List Int)) : List Bl := l.filter (fun x => decide (x.d ∈ P))
theorem keptL_in {l : List Bl} {P : List (List Int)} {k : Nat} {x : Bl} (hx : l[k]? = some x) (h : x.d ∈ P) : keptL (l.take (k + 1)) P = keptL (l.take k) P ++ [x] := by
  unfold keptL; rw [List.take_add_one, hx, List.filter_append]; simp [h]
theorem keptL_out {l : List Bl} {P : List (List Int)} {k : Nat} {x : Bl} (hx : l[k]? = some x) (h : x.d ∉ P) : keptL (l.take (k + 1)) P = keptL (l.take k) P := by
  unfold keptL; rw [List.take_add_one, hx, List.filter_append]; simp [h]
theorem keptL_le (l : List Bl) (P : List (List Int)) : (keptL l P).length ≤ l.length := List.length_filter_le _ _
theorem keptL_mem {l : List Bl} {P : List (List Int)} {x : Bl} (h : x ∈ keptL l P) : x ∈ l := (List.mem_filter.1 h).1
theorem swnum_small (x : Bl) : (lnkB x).length ≤ 262144 := by
  by_cases h : x.b.length ≤ 262144
  · exact Nat.le_trans (lnkB_len x) h
  · unfold lnkB lnkD
    have hz : (⟨(uOf x.b).toArray⟩ : ByteArray).size = x.b.length := by rw [Lib.size_eq]; simp [uOf]
    have hd : decC ⟨(uOf x.b).toArray⟩ = (3, []) := by unfold decC; rw [if_pos (by omega)]
    rw [hd]
    simp [lnk]
theorem pot_leS (P : List (List Int)) : ∀ L : List Bl, pot L P ≤ L.length * 262144
  | [] => by simp [pot]
  | x :: L => by
    have h := pot_leS P L
    have h1 := swnum_small x
    unfold pot at h ⊢
    rw [List.map_cons, List.sum_cons, List.length_cons]
    split <;> omega
/-- what Sweep answers -/
def SwpR (l : List Bl) (R : List (List Int)) (e : Ending) (w' : World) : Prop :=
  (vldP (l.map bp) = false ∧ e = .returned (.tuple #[.slice none 0 0, .int .i64 1])) ∨
  (vldP (l.map bp) = true ∧ ∃ (P M : List (List Int)) (sp : Option Addr) (m cap : Nat) (L : List Bl), CloD l R P M ∧ e = .returned (.tuple #[.slice sp m cap, .int .i64 0]) ∧ L.length = m ∧ L.map bp = (keptL l P).map bp ∧ BlsIn w' w'.heap.size sp m cap L ∧ (sp = none → cap = 0))
set_option maxRecDepth 100000 in
set_option maxHeartbeats 4000000 in
theorem sweep_any (sp : Option Addr) (n cap : Nat) (l : List Bl) (rp : Option Addr) (rn rc : Nat) (R : List (List Int)) (w : World) (hl : BlsIn w w.heap.size sp n cap l) (hR : DigsIn w w.heap.size rp rn rc R) (hrnil : rp = none → rc = 0) (hn : n ≤ 300) (hrn : rn ≤ 1000) :
    Calls Tryz.prog 5 #[.slice sp n cap, .slice rp rn rc] w fun e w' => SwpR l R e w' ∧ Below w.heap.size w w' := by
  have HL := Lib.hid hl; have HR := Lib.hid hR; have HRN := Lib.hid hrnil
  have HVA := Lib.hid (valid_bls sp n cap l w hl (by omega))
  have HPL := Lib.hid (show rn + pot l [] ≤ 80000000 by have h1 := pot_leS [] l; rw [hl.len] at h1; omega)
  clear hl hR hrnil
  cases hv : vldP (l.map bp)
  · rw [hv] at HVA
    have HV := Lib.hid hv
    clear hv
    go_enter Tryz.func5, Tryz.ntmps5
    go_wp2_with fail
    refine HVA.out.mono ?_
    rintro e w1 ⟨rfl, b1⟩
    have HB1 := Lib.hid b1; clear b1
    go_wp2_with fail
    go_ret2
    exact ⟨.inl ⟨HV.out, rfl⟩, HB1.out⟩
  rw [hv] at HVA
  have HV := Lib.hid hv
  have HSM := Lib.hid (vld_small hv HL.out)
  clear hv
  go_enter Tryz.func5, Tryz.ntmps5
  go_wp2_with fail
  refine HVA.out.mono ?_
  rintro e w1 ⟨rfl, b1⟩
  have HB1 := Lib.hid b1; clear b1 HVA
  go_wp2_with fail
  refine (clo_any sp n cap l rp rn rc R w1 (HL.out.up HB1.out (Nat.le_refl _)) (HR.out.upD HB1.out HB1.out.size) HRN.out (by omega) HPL.out).mono ?_
  rintro e wz ⟨⟨gp, np1, cp, gm, nm, cm, P, M, rfl, hcd, hdp, _, _, _, hbp, _⟩, b2⟩
  have HB2 := Lib.hid (HB1.out.trans (b2.mono HB1.out.size))
  have HCD := Lib.hid hcd; have HDP2 := Lib.hid hdp
  clear hcd hdp b2
  go_wp2_with fail
  go_loopw [8, 24] (fun v8 v24 wr => ∃ (k c cc : Nat) (g : Option Addr), v8 = .slice g c cc ∧ v24 = .int .i64 k ∧ k ≤ n ∧ Hid ((keptL (l.take k) P).length = c ∧ OwnB wr wz.heap.size (.slice g c cc) (keptL (l.take k) P) ∧ Below wz.heap.size wz wr)) (fun _ v24 _ => n - (intOf v24).toNat)
  case atStart => exact ⟨0, 0, 0, none, rfl, rfl, Nat.zero_le _, rfl, OwnB.nil _ _, Below.refl _ _⟩
  case round =>
    obtain ⟨k, c, cc, g, rfl, rfl, hk, H⟩ := hrel
    have HKL := Lib.hid H.out.1.symm; have HO := Lib.hid H.out.2.1; have HBE := Lib.hid H.out.2.2; have HDP := Lib.hid (HDP2.out.upD H.out.2.2 H.out.2.2.size); have HB := Lib.hid (HB2.out.trans (H.out.2.2.mono HB2.out.size))
    have hck : c ≤ 300 := by have h1 := keptL_le (l.take k) P; have h2 := H.out.1; rw [List.length_take] at h1; omega
    clear H
    by_cases hlt : k < n
    · have hd : decide ((k : Int) < (n : Int)) = true := by simp; omega
      obtain ⟨b, off, rfl, hbB, hcap, hr⟩ := HL.out.cells (by omega)
      obtain ⟨x, hx⟩ : ∃ x, l[k]? = some x := ⟨l[k]'(by have := HL.out.len; omega), List.getElem?_eq_getElem _⟩
      have HXM := Lib.hid (List.mem_of_getElem? hx)
      have HX := Lib.hid hx
      have HXR := Lib.hid (range_belowG (hr k x hx) HB.out hbB)
      have HOX := Lib.hid (HL.out.ok x HXM.out)
      have HIB := Lib.hid (info_b HOX.out)
      have HI2 : Hid ((Tryz.prog.info? 50).map (·.size) = some (blL x).toArray.size) := by show _ = _; rw [List.size_toArray]; exact HIB.out
      have HS : Hid (33 = (blL x).toArray.size) := by show _ = _; rw [List.size_toArray, blL_length HOX.out]
      have HID := Lib.hid (info_d HOX.out)
      have p1 : (0 : Int) ≤ (k : Int) := by omega
      have p2 : (k : Int) < (n : Int) := by omega
      clear hr hx
      have HW2 := Lib.hid ((Below.refl wr.heap.size wr).alloc (Nat.le_refl _) (.cells (blL x).toArray 50))
      have HZ2 := Lib.hid (show wr.heap.size < (wr.alloc (.cells (blL x).toArray 50)).heap.size by simp)
      have HBS := Lib.hid (fun w' h => (show Calls Tryz.prog 16 #[.slice gp np1 cp, .agg (x.d.map (Value.int .u8)).toArray, .func (.func 17) #[] #[]] w' fun e w'' => (∃ k : Nat, e = .returned (.tuple #[.int .i64 k, .bool (decide (x.d ∈ P))])) ∧ Below w'.heap.size w' w'' from bsD_any gp np1 cp P x.d w' h HCD.out.srtP HOX.out (by omega)))
      by_cases hin : x.d ∈ P
      · rw [decide_eq_true hin] at HBS
        have HKN := Lib.hid (keptL_in HX.out hin)
        clear hin
        go_wp2_with (first
          | (refine wpList_load_mid rfl 50 _ rfl b (off + k * 33) rfl _ _ HXR.out Tryz.underlying50 rfl HIB.out ?_)
          | (refine wpList_store_row rfl 50 _ _ rfl wr.heap.size _ rfl rfl 50 _ (heap_alloc_new wr _) (by simpa using HI2.out) (by simpa using HS.out) (Array.all_eq_true_iff_forall_mem.2 (by simpa using blL_one x)) ?_; rw [setRow_new]; have HE2 := Lib.hid (BlB.new wr x); have HED2 := Lib.hid (BlB.new wr x).d; generalize hw2 : World.alloc wr _ = w2 at *; clear hw2)
          | (refine wpList_load_mid rfl 29 _ rfl wr.heap.size 0 rfl _ _ HED2.out Tryz.underlying29 rfl HID.out ?_))
        refine (HBS.out w2 (HDP.out.upD HW2.out HW2.out.size)).mono ?_
        rintro e w3 ⟨⟨kk, rfl⟩, b3⟩
        have HE3 := Lib.hid (HE2.out.below b3 HZ2.out)
        have HB3 := Lib.hid (HBE.out.trans ((HW2.out.trans (b3.mono HW2.out.size)).mono HBE.out.size))
        have HO3 := Lib.hid ((HO.out.below HW2.out).below b3)
        clear b3 HE2 HED2 HW2 HZ2 HBS
        go_wp2_with (first
          | (refine wpList_load_mid rfl 50 _ rfl wr.heap.size 0 rfl _ _ HE3.out.all Tryz.underlying50 rfl HIB.out ?_)
          | (refine wpList_slice_eqG rfl 24 1 [(0, .tmp 37)] rfl [(0, .agg (blL x).toArray)] rfl _ _ (sliceB _ x HOX.out) ?_; have HZ4 := Lib.hid (BlB.new w3 x); have hb4 : Below w3.heap.size w3 (w3.alloc (.cells (blL x).toArray 50)) := (Below.refl w3.heap.size w3).alloc (Nat.le_refl _) _; have HO4 := Lib.hid (HO3.out.below hb4); have HB4 := Lib.hid (HB3.out.trans (hb4.mono HB3.out.size)); clear hb4; generalize World.alloc w3 _ = w4 at *)
          | (at_builtin; refine wpList_append_bl rfl (.tmp 36) (.tmp 38) rfl wz.heap.size _ (keptL (l.take k) P) c HKL.out rfl HO4.out w3.heap.size x rfl HZ4.out HOX.out (by omega) HB4.out.size ?_; intro sp5 cap5 w5 HO5 HB5 HG5))
        have HB6 := Lib.hid (HB4.out.trans HB5.out)
        have HK6 : Hid ((keptL (l.take k) P ++ [x]).length = c + 1) := by show _ = _; rw [List.length_append, ← HKL.out]; rfl
        go_roundw
        case rel => exact ⟨k + 1, c + 1, cap5, sp5, rfl, by go_num, by omega, by rw [HKN.out]; exact ⟨HK6.out, HO5.out, HB6.out⟩⟩
        case measure => simp [intOf]; omega
      · rw [decide_eq_false hin] at HBS
        have HKN := Lib.hid (keptL_out HX.out hin)
        clear hin
        go_wp2_with (first
          | (refine wpList_load_mid rfl 50 _ rfl b (off + k * 33) rfl _ _ HXR.out Tryz.underlying50 rfl HIB.out ?_)
          | (refine wpList_store_row rfl 50 _ _ rfl wr.heap.size _ rfl rfl 50 _ (heap_alloc_new wr _) (by simpa using HI2.out) (by simpa using HS.out) (Array.all_eq_true_iff_forall_mem.2 (by simpa using blL_one x)) ?_; rw [setRow_new]; have HE2 := Lib.hid (BlB.new wr x); have HED2 := Lib.hid (BlB.new wr x).d; generalize hw2 : World.alloc wr _ = w2 at *; clear hw2)
          | (refine wpList_load_mid rfl 29 _ rfl wr.heap.size 0 rfl _ _ HED2.out Tryz.underlying29 rfl HID.out ?_))
        refine (HBS.out w2 (HDP.out.upD HW2.out HW2.out.size)).mono ?_
        rintro e w3 ⟨⟨kk, rfl⟩, b3⟩
        have HB3 := Lib.hid (HBE.out.trans ((HW2.out.trans (b3.mono HW2.out.size)).mono HBE.out.size))
        have HO3 := Lib.hid ((HO.out.below HW2.out).below b3)
        clear b3 HE2 HED2 HW2 HZ2 HBS
        go_wp2_with fail
        go_roundw
        case rel => exact ⟨k + 1, c, cc, g, rfl, by go_num, by omega, by rw [HKN.out]; exact ⟨HKL.out.symm, HO3.out, HB3.out⟩⟩
        case measure => simp [intOf]; omega
    · have hkn : k = n := by omega
      have hd : decide ((k : Int) < (n : Int)) = false := by simp; omega
      have HT : Hid (l.take k = l) := by show _ = _; rw [hkn]; exact List.take_of_length_le (by rw [HL.out.len]; exact Nat.le_refl _)
      clear hkn
      rw [HT.out] at HKL HO
      have HDU := Lib.hid (duplicates_any g c cc (keptL l P) wr (HO.out.bls HKL.out.symm (fun y hy => (HL.out.dat y (keptL_mem hy)).up HB.out (Nat.le_refl _))) (by omega) (fun y hy => by have := HSM.out y (keptL_mem hy); omega))
      go_wp2_with fail
      refine HDU.out.mono ?_
      rintro e w3 ⟨sp', cap', L, rfl, hL, hLm, hst, b3⟩
      have HB3 := Lib.hid (HB.out.trans (b3.mono HB.out.size))
      have HRS := Lib.hid (And.intro hL (And.intro hLm hst))
      clear hL hLm hst b3
      go_wp2_with fail
      go_ret2
      exact ⟨.inr ⟨HV.out, P, M, sp', c, cap', L, HCD.out, rfl, HRS.out.1, HRS.out.2.1, HRS.out.2.2.bls HRS.out.1, HRS.out.2.2.own.nilcap⟩, HB3.out⟩
end Go.Proofs.YtdjknefbaclleaaGreatDoor
