/-
  The walks of snapshot.Select and of the reference's (conditions: digests of 32 bytes, at most 100000 entries).
-/
import Derived.Test.YtkookkhlgllneaaDoorSelM
import Derived.Test.YtkookkhlgllneaaDoorGd
import Derived.Test.YtkookkhlgllneaaDoorGl
namespace Go.Proofs.YtkookkhlgllneaaDoor
open Go.RowKit

/-- the entries that a pattern selects -/
def selL (p : ByteArray) (s : List En) : List En := s.filter fun x => mtB p x.p
theorem selL_add {p : ByteArray} {s : List En} {k : Nat} {x : En} (hx : s[k]? = some x) (hf : mtB p x.p = true) : selL p (s.take (k + 1)) = selL p (s.take k) ++ [x] := sel_take hx hf
theorem selL_skip {p : ByteArray} {s : List En} {k : Nat} {x : En} (hx : s[k]? = some x) (hf : mtB p x.p = false) : selL p (s.take (k + 1)) = selL p (s.take k) := sel_skip hx hf
theorem selL_le (p : ByteArray) (s : List En) : (selL p s).length ≤ s.length := List.length_filter_le _ _
theorem selL_le_k (p : ByteArray) (s : List En) (k : Nat) : (selL p (s.take k)).length ≤ k := Nat.le_trans (selL_le _ _) (by rw [List.length_take]; omega)
set_option maxRecDepth 100000 in
set_option maxHeartbeats 1000000 in
theorem Select_any (sp : Option Addr) (n cap : Nat) (l : List En) (p : ByteArray) (w : World) (hl : EnsIn w w.heap.size sp n cap l) (hn : n ≤ 100000) :
    Calls Tryd.prog 31 #[.slice sp n cap, .string p] w fun e w' => ∃ sp' m cap', e = .returned (.slice sp' m cap') ∧ m = (selL p l).length ∧ OwnE w' w.heap.size (.slice sp' m cap') (selL p l) ∧ Below w.heap.size w w' := by
  have HL := Lib.hid hl
  have HMT := Lib.hid (fun s w1 => Match_any p s w1)
  clear hl
  go_enter Tryd.func31, Tryd.ntmps31
  go_wp2_with fail
  go_loopw [5, 10] (fun v i wr => ∃ (k m : Nat) (sp' : Option Addr) (cap' : Nat), k ≤ n ∧ i = .int .i64 k ∧ v = .slice sp' m cap' ∧ Hid (m = (selL p (l.take k)).length) ∧ Hid (OwnE wr w.heap.size (.slice sp' m cap') (selL p (l.take k))) ∧ Hid (Below w.heap.size w wr)) (fun _ i _ => n - (intOf i).toNat)
  case atStart => exact ⟨0, 0, _, _, Nat.zero_le _, rfl, rfl, rfl, OwnE.nil _ _, Below.refl _ _⟩
  case round =>
    obtain ⟨k, m, sp', cap', hk, rfl, rfl, HM, hown, hbe⟩ := hrel
    have hbs := hbe.out.size
    have hmk : m ≤ k := by rw [HM.out]; exact selL_le_k p l k
    by_cases hlt : k < n
    · have hd : decide ((k : Int) < (n : Int)) = true := by simp; omega
      obtain ⟨b, off, rfl, hbB, hcap, hr⟩ := HL.out.cells (by omega)
      have hkl : k < l.length := by rw [HL.out.len]; exact hlt
      obtain ⟨x, hx⟩ : ∃ x, l[k]? = some x := ⟨l[k], List.getElem?_eq_getElem hkl⟩
      have hok := HL.out.ok x (List.mem_of_getElem? hx)
      have HR := Lib.hid (range_belowS (hr k x hx) hbe.out hbB)
      have HI := Lib.hid (info_e hok); have HOK := Lib.hid hok
      have HI2 : Hid ((Tryd.prog.info? 70).map (·.size) = some (enL x).toArray.size) := by show _ = _; rw [List.size_toArray]; exact HI.out
      have HS : Hid (33 = (enL x).toArray.size) := by show _ = _; rw [List.size_toArray, enL_length hok]
      have HX := Lib.hid hx
      have p1 : (0 : Int) ≤ (k : Int) := by omega
      have p2 : (k : Int) < (n : Int) := by omega
      clear hr hx hkl hok
      go_wp2_with (first
        | (refine wpList_load_mid rfl 70 _ rfl b (off + k * 33) rfl _ _ HR.out Tryd.underlying70 rfl HI.out ?_)
        | (refine wpList_store_row rfl 70 _ _ rfl wr.heap.size _ rfl rfl 70 _ (heap_alloc_new wr _) (by simpa using HI.out) (by simpa using HS.out) (Array.all_eq_true_iff_forall_mem.2 (by simpa using enL_one x)) ?_; rw [setRow_new]; generalize hw2 : World.alloc wr _ = w2; have he2 : EnB w2 wr.heap.size x := (by rw [← hw2]; exact heap_alloc_new _ _); have hb2 : Below wr.heap.size wr w2 := (by rw [← hw2]; exact (Below.refl _ _).alloc (Nat.le_refl _) _); have hz2 : wr.heap.size < w2.heap.size := (by rw [← hw2]; simp); have hp2 := he2.p; have HE2 := Lib.hid he2; have HW2 := Lib.hid hb2; have HO2 := Lib.hid (hown.out.below hb2); clear hw2 he2 hb2))
      refine (HMT.out x.p w2).mono ?_
      rintro e w3 ⟨rfl, hb3⟩
      have HE3 := Lib.hid ((hb3.block wr.heap.size hz2).trans HE2.out)
      have HO3 := Lib.hid (HO2.out.below hb3)
      have HB3 := Lib.hid (hbe.out.trans ((HW2.out.trans (hb3.mono (by omega))).mono hbs))
      have hz3 := hb3.size
      clear hb3 hp2
      cases hmt : mtB p x.p
      · have HT := Lib.hid (selL_skip HX.out hmt)
        clear hmt
        go_wp2_with fail
        go_roundw
        case rel => exact ⟨k + 1, m, sp', cap', hlt, by go_num, rfl, by show _ = _; rw [HT.out]; exact HM.out, by show OwnE _ _ _ _; rw [HT.out]; exact HO3.out, HB3⟩
        case measure => simp [intOf]; omega
      · have HT := Lib.hid (selL_add HX.out hmt)
        clear hmt
        go_wp2_with (first
          | (refine wpList_load_mid rfl 70 _ rfl wr.heap.size 0 rfl _ _ (EnB.all HE3.out) Tryd.underlying70 rfl HI.out ?_)
          | (refine wpList_slice_eq rfl 22 1 [(0, .tmp 19)] rfl [(0, .agg (enL x).toArray)] rfl _ _ (sliceE _ x HOK.out) ?_; generalize hw4 : World.alloc w3 _ = w4; have he4 : EnB w4 w3.heap.size x := (by rw [← hw4]; exact heap_alloc_new _ _); have hb4 : Below w3.heap.size w3 w4 := (by rw [← hw4]; exact (Below.refl _ _).alloc (Nat.le_refl _) _); have hz4 : w3.heap.size < w4.heap.size := (by rw [← hw4]; simp); have HE4 := Lib.hid he4; have HB4 := Lib.hid (HB3.out.trans (hb4.mono HB3.out.size)); have HO4 := Lib.hid (HO3.out.below hb4); clear hw4 he4 hb4)
          | (at_builtin; refine wpList_append_en rfl (.tmp 18) (.tmp 20) rfl w.heap.size _ _ m HM.out rfl HO4.out w3.heap.size x rfl HE4.out HOK.out (by omega) (by omega) ?_; intro sp5 cap5 w5 HO5 HB5 HG5))
        have HB6 := Lib.hid (HB4.out.trans HB5.out)
        go_roundw
        case rel => exact ⟨k + 1, m + 1, sp5, cap5, hlt, by go_num, rfl, by show _ = _; rw [HT.out, List.length_append, ← HM.out]; rfl, by show OwnE _ _ _ _; rw [HT.out]; exact HO5.out, HB6⟩
        case measure => simp [intOf]; omega
    · obtain rfl : k = n := by omega
      have hd : decide ((k : Int) < (k : Int)) = false := by simp
      have HT : Hid (l.take k = l) := by show _ = _; rw [List.take_of_length_le (by rw [HL.out.len]; exact Nat.le_refl _)]
      go_wp2_with fail
      go_ret
      exact ⟨sp', m, cap', rfl, by rw [HM.out, HT.out], (by have := hown.out; rwa [HT.out] at this), hbe.out⟩
set_option maxRecDepth 100000 in
set_option maxHeartbeats 1000000 in
theorem refSelect_any (sp : Option Addr) (n cap : Nat) (l : List En) (p : ByteArray) (w : World) (hl : EnsIn w w.heap.size sp n cap l) (hn : n ≤ 100000) :
    Calls Tryd.prog 32 #[.slice sp n cap, .string p] w fun e w' => ∃ sp' m cap', e = .returned (.slice sp' m cap') ∧ m = (selL p l).length ∧ OwnE w' w.heap.size (.slice sp' m cap') (selL p l) ∧ Below w.heap.size w w' := by
  have HL := Lib.hid hl
  have HMT := Lib.hid (fun s w1 => refMatch_any p s w1)
  clear hl
  go_enter Tryd.func32, Tryd.ntmps32
  go_wp2_with fail
  go_loopw [5, 6] (fun v i wr => ∃ (k m : Nat) (sp' : Option Addr) (cap' : Nat), k ≤ n ∧ i = .int .i64 k ∧ v = .slice sp' m cap' ∧ Hid (m = (selL p (l.take k)).length) ∧ Hid (OwnE wr w.heap.size (.slice sp' m cap') (selL p (l.take k))) ∧ Hid (Below w.heap.size w wr)) (fun _ i _ => n - (intOf i).toNat)
  case atStart => exact ⟨0, 0, _, _, Nat.zero_le _, rfl, rfl, rfl, OwnE.nil _ _, Below.refl _ _⟩
  case round =>
    obtain ⟨k, m, sp', cap', hk, rfl, rfl, HM, hown, hbe⟩ := hrel
    have hbs := hbe.out.size
    have hmk : m ≤ k := by rw [HM.out]; exact selL_le_k p l k
    by_cases hlt : k < n
    · have hd : decide ((k : Int) < (n : Int)) = true := by simp; omega
      obtain ⟨b, off, rfl, hbB, hcap, hr⟩ := HL.out.cells (by omega)
      have hkl : k < l.length := by rw [HL.out.len]; exact hlt
      obtain ⟨x, hx⟩ : ∃ x, l[k]? = some x := ⟨l[k], List.getElem?_eq_getElem hkl⟩
      have hok := HL.out.ok x (List.mem_of_getElem? hx)
      have hxp := rngE_p (range_belowS (hr k x hx) hbe.out hbB)
      have HRY := Lib.hid (fun W (hb : Below w.heap.size w W) => range_belowS (hr k x hx) hb hbB)
      have HI := Lib.hid (info_e hok); have HOK := Lib.hid hok
      have HX := Lib.hid hx
      have p1 : (0 : Int) ≤ (k : Int) := by omega
      have p2 : (k : Int) < (n : Int) := by omega
      clear hr hx hkl hok
      go_wp2_with fail
      refine (HMT.out x.p wr).mono ?_
      rintro e w3 ⟨rfl, hb3⟩
      have HO3 := Lib.hid (hown.out.below hb3)
      have HB3 := Lib.hid (hbe.out.trans (hb3.mono hbs))
      clear hb3 hxp
      cases hmt : mtB p x.p
      · have HT := Lib.hid (selL_skip HX.out hmt)
        clear hmt
        go_wp2_with fail
        go_roundw
        case rel => exact ⟨k + 1, m, sp', cap', hlt, by go_num, rfl, by show _ = _; rw [HT.out]; exact HM.out, by show OwnE _ _ _ _; rw [HT.out]; exact HO3.out, HB3⟩
        case measure => simp [intOf]; omega
      · have HT := Lib.hid (selL_add HX.out hmt)
        clear hmt
        go_wp2_with (first
          | (refine wpList_load_mid rfl 70 _ rfl b (off + k * 33) rfl _ _ (HRY.out _ HB3.out) Tryd.underlying70 rfl HI.out ?_)
          | (refine wpList_slice_eq rfl 22 1 [(0, .tmp 24)] rfl [(0, .agg (enL x).toArray)] rfl _ _ (sliceE _ x HOK.out) ?_; generalize hw4 : World.alloc w3 _ = w4; have he4 : EnB w4 w3.heap.size x := (by rw [← hw4]; exact heap_alloc_new _ _); have hb4 : Below w3.heap.size w3 w4 := (by rw [← hw4]; exact (Below.refl _ _).alloc (Nat.le_refl _) _); have HE4 := Lib.hid he4; have HB4 := Lib.hid (HB3.out.trans (hb4.mono HB3.out.size)); have HO4 := Lib.hid (HO3.out.below hb4); clear hw4 he4 hb4)
          | (at_builtin; refine wpList_append_en rfl (.tmp 20) (.tmp 25) rfl w.heap.size _ _ m HM.out rfl HO4.out w3.heap.size x rfl HE4.out HOK.out (by omega) HB4.out.size ?_; intro sp5 cap5 w5 HO5 HB5 HG5))
        have HB6 := Lib.hid (HB4.out.trans HB5.out)
        go_roundw
        case rel => exact ⟨k + 1, m + 1, sp5, cap5, hlt, by go_num, rfl, by show _ = _; rw [HT.out, List.length_append, ← HM.out]; rfl, by show OwnE _ _ _ _; rw [HT.out]; exact HO5.out, HB6⟩
        case measure => simp [intOf]; omega
    · obtain rfl : k = n := by omega
      have hd : decide ((k : Int) < (k : Int)) = false := by simp
      have HT : Hid (l.take k = l) := by show _ = _; rw [List.take_of_length_le (by rw [HL.out.len]; exact Nat.le_refl _)]
      go_wp2_with fail
      go_ret
      exact ⟨sp', m, cap', rfl, by rw [HM.out, HT.out], (by have := hown.out; rwa [HT.out] at this), hbe.out⟩
end Go.Proofs.YtkookkhlgllneaaDoor
