/-
  The walks of snapshot.Move and of the reference's (conditions: digests of 32 bytes, at most 100000 entries).
-/
import Derived.Test.YtkookkhlgllneaaDoorSelM
import Derived.Test.YtkookkhlgllneaaDoorGc
import Derived.Test.YtkookkhlgllneaaDoorGd
import Derived.Test.YtkookkhlgllneaaDoorGe
import Derived.Test.YtkookkhlgllneaaDoorGl
import Derived.Test.YtkookkhlgllneaaDoorLawPRel
namespace Go.Proofs.YtkookkhlgllneaaDoor
open Go.RowKit

set_option maxHeartbeats 400000 in
theorem snapDirectory_any (d : ByteArray) (w : World) :
    Calls Tryd.prog 69 #[.string d] w fun e w' => e = .returned (.bool (dirB d)) ∧ Below w.heap.size w w' := by
  have HP := Lib.hid (fun w => Path_any d w)
  have hD : Hid (dirB d = ((d.toList == []) || pathB d)) := rfl
  by_cases h : (d.toList == []) = true
  · have HX : Hid (dirB d = true) := by show _ = _; rw [hD.out, h]; rfl
    go_enter Tryd.func69, Tryd.ntmps69
    go_wp2_with fail
    go_ret
    exact ⟨by rw [HX.out]; rfl, Below.refl _ _⟩
  · have h : (d.toList == []) = false := by simpa using h
    have HX : Hid (dirB d = pathB d) := by show _ = _; rw [hD.out, h]; rfl
    go_enter Tryd.func69, Tryd.ntmps69
    go_wp2_with fail
    refine (HP.out _).mono ?_
    rintro e w' ⟨rfl, hb⟩
    go_wp2_with fail
    go_ret
    exact ⟨by rw [HX.out]; rfl, hb⟩
/-- the entries that are moved -/
def mvL (a b : ByteArray) (s : List En) : List En := s.filterMap (mvE a b)
theorem mvL_add {a b : ByteArray} {s : List En} {k : Nat} {x : En} (hx : s[k]? = some x) (hr : relOk a b x.p = true) : mvL a b (s.take (k + 1)) = mvL a b (s.take k) ++ [⟨movB a b x.p, x.d⟩] := move_take hx (by unfold mvE; rw [if_pos hr])
theorem mvL_skip {a b : ByteArray} {s : List En} {k : Nat} {x : En} (hx : s[k]? = some x) (hr : relOk a b x.p = false) : mvL a b (s.take (k + 1)) = mvL a b (s.take k) := move_skip hx (by unfold mvE; rw [if_neg (by rw [hr]; simp)])
theorem mvL_ins {a b : ByteArray} {s : List En} (hs : Srt En.p s) {k : Nat} {x : En} (hx : s[k]? = some x) (hr : relOk a b x.p = true) : ins En.p (mvL a b (s.take k)) ⟨movB a b x.p, x.d⟩ = mvL a b (s.take (k + 1)) := move_step hs hx (by unfold mvE; rw [if_pos hr])
theorem mvL_le (a b : ByteArray) (s : List En) : (mvL a b s).length ≤ s.length := List.length_filterMap_le _ _
theorem mvL_le_k (a b : ByteArray) (s : List En) (k : Nat) : (mvL a b (s.take k)).length ≤ k := Nat.le_trans (mvL_le _ _ _) (by rw [List.length_take]; omega)
theorem relB_yes {a b s : ByteArray} (h : relOk a b s = true) : relB a b s = movB a b s := by unfold relB; rw [if_pos h]
theorem dirB_size {d : ByteArray} (h : dirB d = true) : d.size ≤ 1000 := by
  unfold dirB at h
  rw [Bool.or_eq_true] at h
  rcases h with h | h
  · have : d.toList = [] := by simpa using h
    have h2 : d.data.toList = [] := by rw [← Lib.toList_data]; exact this
    have h3 : d.size = d.data.toList.length := Lib.size_eq d
    rw [h2] at h3
    have h4 : d.size = 0 := h3
    omega
  · unfold pathB at h
    rw [Bool.and_eq_true, Bool.and_eq_true] at h
    have := of_decide_eq_true h.1.1
    omega
theorem vld_paths {s : List En} (h : vldE s = true) : ∀ x ∈ s, x.p.size ≤ 200 := by
  intro x hx
  unfold vldE at h
  rw [Bool.and_eq_true, Bool.and_eq_true] at h
  have h1 : s.any badE = false := by simpa using h.1.2
  have h2 := List.any_eq_false.1 h1 x hx
  unfold badE at h2
  simp only [Bool.or_eq_true, not_or, Bool.not_eq_true', Bool.not_eq_false] at h2
  have h3 := h2.2
  unfold pathB at h3
  rw [Bool.and_eq_true, Bool.and_eq_true] at h3
  exact of_decide_eq_true h3.1.1
theorem moveL_ok {a b : ByteArray} {s : List En} (h1 : vldE s = true) (h2 : dirB a = true) (h3 : dirB b = true) : moveL a b s = .ok (mvL a b s) := by unfold moveL dirs; rw [h1, h2, h3]; rfl
theorem moveL_bad1 {a b : ByteArray} {s : List En} (h1 : vldE s = false) : moveL a b s = .error 1 := by unfold moveL dirs; rw [h1]; rfl
theorem moveL_bad2 {a b : ByteArray} {s : List En} (h1 : vldE s = true) (h2 : dirB a = false) : moveL a b s = .error 1 := by unfold moveL dirs; rw [h1, h2]; rfl
theorem moveL_bad3 {a b : ByteArray} {s : List En} (h1 : vldE s = true) (h2 : dirB a = true) (h3 : dirB b = false) : moveL a b s = .error 1 := by unfold moveL dirs; rw [h1, h2, h3]; rfl
set_option maxRecDepth 100000 in
set_option maxHeartbeats 2000000 in
theorem Move_any (sp : Option Addr) (n cap : Nat) (l : List En) (a b : ByteArray) (w : World) (hl : EnsIn w w.heap.size sp n cap l) (hn : n ≤ 100000) :
    Calls Tryd.prog 29 #[.slice sp n cap, .string a, .string b] w (ResE w (moveL a b l)) := by
  have HL := Lib.hid hl
  clear hl
  have hv := Valid_any sp n cap l w HL.out (by omega)
  have hd1 := fun w1 => snapDirectory_any a w1
  have hd2 := fun w1 => snapDirectory_any b w1
  cases c1 : vldE l
  · rw [c1] at hv
    have HV := Lib.hid hv; have HC := Lib.hid c1; clear hv hd1 hd2 c1
    go_enter Tryd.func29, Tryd.ntmps29
    go_wp2_with fail
    refine HV.out.mono ?_
    rintro e w1 ⟨rfl, hb1⟩
    have HB1 := Lib.hid hb1; clear hb1
    go_wp2_with fail
    go_ret2
    exact resE_error (moveL_bad1 HC.out) rfl HB1.out
  rw [c1] at hv
  cases c2 : dirB a
  · rw [c2] at hd1
    have HV := Lib.hid hv; have HD1 := Lib.hid hd1; have HC := Lib.hid c1; have HC2 := Lib.hid c2; clear hv hd1 hd2 c1 c2
    go_enter Tryd.func29, Tryd.ntmps29
    go_wp2_with fail
    refine HV.out.mono ?_
    rintro e w1 ⟨rfl, hb1⟩
    have HB1 := Lib.hid hb1; clear hb1
    go_wp2_with fail
    refine (HD1.out w1).mono ?_
    rintro e w2 ⟨rfl, hb2⟩
    have HB2 := Lib.hid (HB1.out.trans (hb2.mono HB1.out.size)); clear hb2
    go_wp2_with fail
    go_ret2
    exact resE_error (moveL_bad2 HC.out HC2.out) rfl HB2.out
  rw [c2] at hd1
  cases c3 : dirB b
  · rw [c3] at hd2
    have HV := Lib.hid hv; have HD1 := Lib.hid hd1; have HD2 := Lib.hid hd2; have HC := Lib.hid c1; have HC2 := Lib.hid c2; have HC3 := Lib.hid c3; clear hv hd1 hd2 c1 c2 c3
    go_enter Tryd.func29, Tryd.ntmps29
    go_wp2_with fail
    refine HV.out.mono ?_
    rintro e w1 ⟨rfl, hb1⟩
    have HB1 := Lib.hid hb1; clear hb1
    go_wp2_with fail
    refine (HD1.out w1).mono ?_
    rintro e w2 ⟨rfl, hb2⟩
    have HB2 := Lib.hid (HB1.out.trans (hb2.mono HB1.out.size)); clear hb2
    go_wp2_with fail
    refine (HD2.out w2).mono ?_
    rintro e w3 ⟨rfl, hb3⟩
    have HB3 := Lib.hid (HB2.out.trans (hb3.mono HB2.out.size)); clear hb3
    go_wp2_with fail
    go_ret2
    exact resE_error (moveL_bad3 HC.out HC2.out HC3.out) rfl HB3.out
  rw [c3] at hd2
  have HV := Lib.hid hv; have HD1 := Lib.hid hd1; have HD2 := Lib.hid hd2
  have HMV := Lib.hid (moveL_ok c1 c2 c3)
  have HSR := Lib.hid (vldE_parts c1).2.1
  have HRL := Lib.hid (fun (x : En) (hx : x ∈ l) w1 => Relocate_any a b x.p w1 (dirB_size c2) (dirB_size c3) (Nat.le_trans (vld_paths c1 x hx) (by omega)))
  clear hv hd1 hd2 c1 c2 c3
  go_enter Tryd.func29, Tryd.ntmps29
  go_wp2_with fail
  refine HV.out.mono ?_
  rintro e w1 ⟨rfl, hb1⟩
  have HB1 := Lib.hid hb1; clear hb1
  go_wp2_with fail
  refine (HD1.out w1).mono ?_
  rintro e w2 ⟨rfl, hb2⟩
  have HB2 := Lib.hid (HB1.out.trans (hb2.mono HB1.out.size)); clear hb2
  go_wp2_with fail
  refine (HD2.out w2).mono ?_
  rintro e w0 ⟨rfl, hb0⟩
  have HB0 := Lib.hid (HB2.out.trans (hb0.mono HB2.out.size)); clear hb0
  go_wp2_with fail
  clear HV HD1 HD2
  go_loopw [8, 28] (fun v i wr => ∃ (k m : Nat) (sp' : Option Addr) (cap' : Nat), k ≤ n ∧ i = .int .i64 k ∧ v = .slice sp' m cap' ∧ Hid (m = (mvL a b (l.take k)).length) ∧ Hid (OwnE wr w.heap.size (.slice sp' m cap') (mvL a b (l.take k))) ∧ Hid (Below w.heap.size w wr)) (fun _ i _ => n - (intOf i).toNat)
  case atStart => exact ⟨0, 0, _, _, Nat.zero_le _, rfl, rfl, rfl, OwnE.nil _ _, HB0.out⟩
  case round =>
    clear HB0
    obtain ⟨k, m, sp', cap', hk, rfl, rfl, HM, hown, hbe⟩ := hrel
    have hbs := hbe.out.size
    have hmk : m ≤ k := by rw [HM.out]; exact mvL_le_k a b l k
    by_cases hlt : k < n
    · have hd : decide ((k : Int) < (n : Int)) = true := by simp; omega
      obtain ⟨bk, off, rfl, hbB, hcap, hr⟩ := HL.out.cells (by omega)
      have hkl : k < l.length := by rw [HL.out.len]; exact hlt
      obtain ⟨x, hx⟩ : ∃ x, l[k]? = some x := ⟨l[k], List.getElem?_eq_getElem hkl⟩
      have hok := HL.out.ok x (List.mem_of_getElem? hx)
      have HRX := Lib.hid (HRL.out x (List.mem_of_getElem? hx))
      have HR := Lib.hid (range_belowS (hr k x hx) hbe.out hbB)
      have HRY := Lib.hid (fun W (hb : Below w.heap.size w W) => range_belowS (hr k x hx) hb hbB)
      have hxp := rngE_p (range_belowS (hr k x hx) hbe.out hbB)
      have HI := Lib.hid (info_e hok); have HOK := Lib.hid hok
      have HS : Hid (33 = (enL x).toArray.size) := by show _ = _; rw [List.size_toArray, enL_length hok]
      have HX := Lib.hid hx
      have p1 : (0 : Int) ≤ (k : Int) := by omega
      have p2 : (k : Int) < (n : Int) := by omega
      clear hr hx hkl hok
      clear hxp
      go_wp2_with (first
        | (refine wpList_load_mid rfl 70 _ rfl bk (off + k * 33) rfl _ _ HR.out Tryd.underlying70 rfl HI.out ?_)
        | (refine wpList_store_row rfl 70 _ _ rfl wr.heap.size _ rfl rfl 70 _ (heap_alloc_new wr _) (by simpa using HI.out) (by simpa using HS.out) (Array.all_eq_true_iff_forall_mem.2 (by simpa using enL_one x)) ?_; rw [setRow_new]; generalize hw2 : World.alloc wr _ = w2; have he2 : EnB w2 wr.heap.size x := (by rw [← hw2]; exact heap_alloc_new _ _); have hb2 : Below wr.heap.size wr w2 := (by rw [← hw2]; exact (Below.refl _ _).alloc (Nat.le_refl _) _); have hz2 : wr.heap.size < w2.heap.size := (by rw [← hw2]; simp); have hp2 := he2.p; have HE2 := Lib.hid he2; have HW2 := Lib.hid hb2; have HO2 := Lib.hid (hown.out.below hb2); clear hw2 he2 hb2))
      refine (HRX.out w2).mono ?_
      rintro e w3 ⟨rfl, hb3⟩
      have HE3 := Lib.hid ((hb3.block wr.heap.size hz2).trans HE2.out)
      have HO3 := Lib.hid (HO2.out.below hb3)
      have HB3 := Lib.hid (hbe.out.trans ((HW2.out.trans (hb3.mono (by omega))).mono hbs))
      clear hb3 hp2
      cases hrl : relOk a b x.p
      · have HT := Lib.hid (mvL_skip HX.out hrl)
        clear hrl
        go_wp2_with fail
        go_roundw
        case rel => exact ⟨k + 1, m, sp', cap', hlt, by go_num, rfl, by show _ = _; rw [HT.out]; exact HM.out, by show OwnE _ _ _ _; rw [HT.out]; exact HO3.out, HB3⟩
        case measure => simp [intOf]; omega
      · have HT := Lib.hid (mvL_add HX.out hrl)
        rw [relB_yes hrl]
        have HOQ : Hid (OkE (⟨movB a b x.p, x.d⟩ : En)) := HOK.out
        clear hrl
        generalize movB a b x.p = q at HT HOQ ⊢
        go_wp2_with (first
          | (refine wpList_load_mid rfl 28 _ rfl wr.heap.size 1 rfl _ _ (EnB.d HE3.out) Tryd.underlying28 rfl (info_d HOK.out) ?_)
          | (refine wpList_build_eq rfl 70 [(0, .tmp 42), (1, .tmp 44)] rfl [(0, .string q), (1, .agg (x.d.map (Value.int .u8)).toArray)] rfl _ (buildE q x.d HOK.out.1 _) ?_)
          | (refine wpList_slice_eq rfl 22 1 [(0, .tmp 45)] rfl [(0, .agg (enL ⟨q, x.d⟩).toArray)] rfl _ _ (sliceE _ ⟨q, x.d⟩ HOQ.out) ?_; generalize hw4 : World.alloc w3 _ = w4; have he4 : EnB w4 w3.heap.size ⟨q, x.d⟩ := (by rw [← hw4]; exact heap_alloc_new _ _); have hb4 : Below w3.heap.size w3 w4 := (by rw [← hw4]; exact (Below.refl _ _).alloc (Nat.le_refl _) _); have HE4 := Lib.hid he4; have HB4 := Lib.hid (HB3.out.trans (hb4.mono HB3.out.size)); have HO4 := Lib.hid (HO3.out.below hb4); clear hw4 he4 hb4)
          | (at_builtin; refine wpList_append_en rfl (.tmp 41) (.tmp 46) rfl w.heap.size _ _ m HM.out rfl HO4.out w3.heap.size ⟨q, x.d⟩ rfl HE4.out HOQ.out (by omega) HB4.out.size ?_; intro sp5 cap5 w5 HO5 HB5 HG5))
        have HB6 := Lib.hid (HB4.out.trans HB5.out)
        go_roundw
        case rel => exact ⟨k + 1, m + 1, sp5, cap5, hlt, by go_num, rfl, by show _ = _; rw [HT.out, List.length_append, ← HM.out]; rfl, by show OwnE _ _ _ _; rw [HT.out]; exact HO5.out, HB6⟩
        case measure => simp [intOf]; omega
    · obtain rfl : k = n := by omega
      have hd : decide ((k : Int) < (k : Int)) = false := by simp
      have HT : Hid (l.take k = l) := by show _ = _; rw [List.take_of_length_le (by rw [HL.out.len]; exact Nat.le_refl _)]
      go_wp2_with fail
      go_ret2
      exact resE_ok HMV.out (by rw [HM.out, HT.out]) rfl (by have := hown.out; rwa [HT.out] at this) hbe.out
set_option maxRecDepth 100000 in
set_option maxHeartbeats 2000000 in
theorem refMove_any (sp : Option Addr) (n cap : Nat) (l : List En) (a b : ByteArray) (w : World) (hl : EnsIn w w.heap.size sp n cap l) (hn : n ≤ 100000) :
    Calls Tryd.prog 30 #[.slice sp n cap, .string a, .string b] w (ResE w (moveL a b l)) := by
  have HL := Lib.hid hl
  clear hl
  have hv := refValid_any sp n cap l w HL.out (by omega)
  have hd1 := fun w1 => refDirectory_any a w1
  have hd2 := fun w1 => refDirectory_any b w1
  cases c1 : vldE l
  · rw [c1] at hv
    have HV := Lib.hid hv; have HC := Lib.hid c1; clear hv hd1 hd2 c1
    go_enter Tryd.func30, Tryd.ntmps30
    go_wp2_with fail
    refine HV.out.mono ?_
    rintro e w1 ⟨rfl, hb1⟩
    have HB1 := Lib.hid hb1; clear hb1
    go_wp2_with fail
    go_ret2
    exact resE_error (moveL_bad1 HC.out) rfl HB1.out
  rw [c1] at hv
  cases c2 : dirB a
  · rw [c2] at hd1
    have HV := Lib.hid hv; have HD1 := Lib.hid hd1; have HC := Lib.hid c1; have HC2 := Lib.hid c2; clear hv hd1 hd2 c1 c2
    go_enter Tryd.func30, Tryd.ntmps30
    go_wp2_with fail
    refine HV.out.mono ?_
    rintro e w1 ⟨rfl, hb1⟩
    have HB1 := Lib.hid hb1; clear hb1
    go_wp2_with fail
    refine (HD1.out w1).mono ?_
    rintro e w2 ⟨rfl, hb2⟩
    have HB2 := Lib.hid (HB1.out.trans (hb2.mono HB1.out.size)); clear hb2
    go_wp2_with fail
    go_ret2
    exact resE_error (moveL_bad2 HC.out HC2.out) rfl HB2.out
  rw [c2] at hd1
  cases c3 : dirB b
  · rw [c3] at hd2
    have HV := Lib.hid hv; have HD1 := Lib.hid hd1; have HD2 := Lib.hid hd2; have HC := Lib.hid c1; have HC2 := Lib.hid c2; have HC3 := Lib.hid c3; clear hv hd1 hd2 c1 c2 c3
    go_enter Tryd.func30, Tryd.ntmps30
    go_wp2_with fail
    refine HV.out.mono ?_
    rintro e w1 ⟨rfl, hb1⟩
    have HB1 := Lib.hid hb1; clear hb1
    go_wp2_with fail
    refine (HD1.out w1).mono ?_
    rintro e w2 ⟨rfl, hb2⟩
    have HB2 := Lib.hid (HB1.out.trans (hb2.mono HB1.out.size)); clear hb2
    go_wp2_with fail
    refine (HD2.out w2).mono ?_
    rintro e w3 ⟨rfl, hb3⟩
    have HB3 := Lib.hid (HB2.out.trans (hb3.mono HB2.out.size)); clear hb3
    go_wp2_with fail
    go_ret2
    exact resE_error (moveL_bad3 HC.out HC2.out HC3.out) rfl HB3.out
  rw [c3] at hd2
  have HV := Lib.hid hv; have HD1 := Lib.hid hd1; have HD2 := Lib.hid hd2
  have HMV := Lib.hid (moveL_ok c1 c2 c3)
  have HSR := Lib.hid (vldE_parts c1).2.1
  have HRL := Lib.hid (fun (x : En) (hx : x ∈ l) w1 => refRelocate_any a b x.p w1 (dirB_size c2) (dirB_size c3) (Nat.le_trans (vld_paths c1 x hx) (by omega)))
  clear hv hd1 hd2 c1 c2 c3
  go_enter Tryd.func30, Tryd.ntmps30
  go_wp2_with fail
  refine HV.out.mono ?_
  rintro e w1 ⟨rfl, hb1⟩
  have HB1 := Lib.hid hb1; clear hb1
  go_wp2_with fail
  refine (HD1.out w1).mono ?_
  rintro e w2 ⟨rfl, hb2⟩
  have HB2 := Lib.hid (HB1.out.trans (hb2.mono HB1.out.size)); clear hb2
  go_wp2_with fail
  refine (HD2.out w2).mono ?_
  rintro e w0 ⟨rfl, hb0⟩
  have HB0 := Lib.hid (HB2.out.trans (hb0.mono HB2.out.size)); clear hb0
  go_wp2_with fail
  clear HV HD1 HD2
  go_loopw [8, 9] (fun v i wr => ∃ (k m : Nat) (sp' : Option Addr) (cap' : Nat), k ≤ n ∧ i = .int .i64 k ∧ v = .slice sp' m cap' ∧ Hid (m = (mvL a b (l.take k)).length) ∧ Hid (OwnE wr w.heap.size (.slice sp' m cap') (mvL a b (l.take k))) ∧ Hid (Below w.heap.size w wr)) (fun _ i _ => n - (intOf i).toNat)
  case atStart => exact ⟨0, 0, _, _, Nat.zero_le _, rfl, rfl, rfl, OwnE.nil _ _, HB0.out⟩
  case round =>
    clear HB0
    obtain ⟨k, m, sp', cap', hk, rfl, rfl, HM, hown, hbe⟩ := hrel
    have hbs := hbe.out.size
    have hmk : m ≤ k := by rw [HM.out]; exact mvL_le_k a b l k
    by_cases hlt : k < n
    · have hd : decide ((k : Int) < (n : Int)) = true := by simp; omega
      obtain ⟨bk, off, rfl, hbB, hcap, hr⟩ := HL.out.cells (by omega)
      have hkl : k < l.length := by rw [HL.out.len]; exact hlt
      obtain ⟨x, hx⟩ : ∃ x, l[k]? = some x := ⟨l[k], List.getElem?_eq_getElem hkl⟩
      have hok := HL.out.ok x (List.mem_of_getElem? hx)
      have HRX := Lib.hid (HRL.out x (List.mem_of_getElem? hx))
      have HR := Lib.hid (range_belowS (hr k x hx) hbe.out hbB)
      have HRY := Lib.hid (fun W (hb : Below w.heap.size w W) => range_belowS (hr k x hx) hb hbB)
      have hxp := rngE_p (range_belowS (hr k x hx) hbe.out hbB)
      have HI := Lib.hid (info_e hok); have HOK := Lib.hid hok
      have HS : Hid (33 = (enL x).toArray.size) := by show _ = _; rw [List.size_toArray, enL_length hok]
      have HX := Lib.hid hx
      have p1 : (0 : Int) ≤ (k : Int) := by omega
      have p2 : (k : Int) < (n : Int) := by omega
      clear hr hx hkl hok
      go_wp2_with fail
      refine (HRX.out wr).mono ?_
      rintro e w3 ⟨rfl, hb3⟩
      have HO3 := Lib.hid (hown.out.below hb3)
      have HB3 := Lib.hid (hbe.out.trans (hb3.mono hbs))
      clear hb3 hxp
      cases hrl : relOk a b x.p
      · have HT := Lib.hid (mvL_skip HX.out hrl)
        clear hrl
        go_wp2_with fail
        go_roundw
        case rel => exact ⟨k + 1, m, sp', cap', hlt, by go_num, rfl, by show _ = _; rw [HT.out]; exact HM.out, by show OwnE _ _ _ _; rw [HT.out]; exact HO3.out, HB3⟩
        case measure => simp [intOf]; omega
      · have HT := Lib.hid (mvL_ins HSR.out HX.out hrl)
        have HTL := Lib.hid (congrArg List.length (mvL_add HX.out hrl))
        rw [relB_yes hrl]
        have HOQ : Hid (OkE (⟨movB a b x.p, x.d⟩ : En)) := HOK.out
        clear hrl
        generalize movB a b x.p = q at HT HOQ HTL ⊢
        go_wp2_with (first
          | (refine wpList_load_mid rfl 28 _ rfl bk (off + k * 33 + 1) rfl _ _ (rngE_d (HRY.out _ HB3.out)) Tryd.underlying28 rfl (info_d HOK.out) ?_)
          | (refine wpList_build_eq rfl 70 [(0, .tmp 44), (1, .tmp 49)] rfl [(0, .string q), (1, .agg (x.d.map (Value.int .u8)).toArray)] rfl _ (buildE q x.d HOK.out.1 _) ?_))
        have HNIL := Lib.hid HO3.out.nilcap
        refine (rinsert_any sp' m cap' (mvL a b (l.take k)) ⟨q, x.d⟩ w3 (HO3.out.ens HM.out.symm) HNIL.out HOQ.out (by omega)).mono ?_
        rintro e w5 ⟨sp5, cap5, rfl, ho5, hb5⟩
        have HO5 := Lib.hid (ho5.base HB3.out.size)
        have HB6 := Lib.hid (HB3.out.trans (hb5.mono HB3.out.size)); clear ho5 hb5
        go_wp2_with fail
        go_roundw
        case rel => exact ⟨k + 1, m + 1, sp5, cap5, hlt, by go_num, rfl, by show _ = _; rw [HTL.out, List.length_append, ← HM.out]; rfl, by show OwnE _ _ _ _; rw [← HT.out]; exact HO5.out, HB6⟩
        case measure => simp [intOf]; omega
    · obtain rfl : k = n := by omega
      have hd : decide ((k : Int) < (k : Int)) = false := by simp
      have HT : Hid (l.take k = l) := by show _ = _; rw [List.take_of_length_le (by rw [HL.out.len]; exact Nat.le_refl _)]
      go_wp2_with fail
      go_ret2
      exact resE_ok HMV.out (by rw [HM.out, HT.out]) rfl (by have := hown.out; rwa [HT.out] at this) hbe.out
end Go.Proofs.YtkookkhlgllneaaDoor
