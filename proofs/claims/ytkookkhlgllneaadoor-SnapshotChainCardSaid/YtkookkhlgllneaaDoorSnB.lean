/-
  Slices of entries and of changes; the walks of incorrect, unfit and kept, of slices.IndexFunc and slices.ContainsFunc at entries and at changes (conditions: digests have 32 bytes; what the function value answers is known at each element).
-/
import Derived.Test.YtkookkhlgllneaaDoorSnA
import Derived.Test.YtkookkhlgllneaaDoorPatD
import Derived.Deep.RegionHeld3
namespace Go.Proofs.YtkookkhlgllneaaDoor
open Go.RowKit

def badE (x : En) : Bool := decide (x.d = zed) || !pathB x.p
def badC (x : Cg) : Bool := decide (x.o = x.n) || !pathB x.p

set_option maxRecDepth 100000 in
set_option maxHeartbeats 400000 in
theorem incorrect_any (x : En) (w : World) (hx : OkE x) :
    Calls Tryd.prog 49 #[.agg (enL x).toArray] w fun e w' => e = .returned (.bool (badE x)) ∧ Below w.heap.size w w' := by
  have HN := Lib.hid (EnB.new w x)
  have HB := Lib.hid ((Below.refl w.heap.size w).alloc (Nat.le_refl _) (.cells (enL x).toArray 70))
  have HO := Lib.hid (info_d hx)
  have he := eqlZ x.d hx.1
  clear hx
  by_cases hz : x.d = zed
  · have HZ : Hid (badE x = true) := by show _ = _; unfold badE; rw [decide_eq_true hz]; rfl
    rw [decide_eq_true hz] at he
    clear hz
    go_enter Tryd.func49, Tryd.ntmps49
    go_wp2_with (generalize hw0 : World.alloc w _ = w0; have hr : EnB w0 w.heap.size x := (by rw [← hw0]; exact HN.out); have hbb : Below w.heap.size w w0 := (by rw [← hw0]; exact HB.out); have HR := Lib.hid hr; have HBB := Lib.hid hbb; clear hw0 hr hbb; refine wpList_load_mid rfl 28 _ rfl w.heap.size 1 rfl _ _ HR.out.d Tryd.underlying28 rfl HO.out ?_)
    go_ret
    exact ⟨ret_boolP HZ.out.symm, HBB.out⟩
  · have HZ : Hid (badE x = !pathB x.p) := by show _ = _; unfold badE; rw [decide_eq_false hz]; rfl
    rw [decide_eq_false hz] at he
    clear hz
    go_enter Tryd.func49, Tryd.ntmps49
    go_wp2_with (generalize hw0 : World.alloc w _ = w0; have hr : EnB w0 w.heap.size x := (by rw [← hw0]; exact HN.out); have hbb : Below w.heap.size w w0 := (by rw [← hw0]; exact HB.out); have hp := hr.p; have HR := Lib.hid hr; have HBB := Lib.hid hbb; clear hw0 hr hbb; refine wpList_load_mid rfl 28 _ rfl w.heap.size 1 rfl _ _ HR.out.d Tryd.underlying28 rfl HO.out ?_)
    refine (Path_any x.p _).mono ?_
    rintro e w1 ⟨rfl, hb1⟩
    have HB1 := Lib.hid hb1; clear hb1
    go_wp2
    go_ret
    exact ⟨ret_boolP HZ.out.symm, HBB.out.trans (HB1.out.mono HBB.out.size)⟩
set_option maxRecDepth 100000 in
set_option maxHeartbeats 400000 in
theorem unfit_any (x : Cg) (w : World) (hx : OkC x) :
    Calls Tryd.prog 106 #[.agg (cgL x).toArray] w fun e w' => e = .returned (.bool (badC x)) ∧ Below w.heap.size w w' := by
  have HN := Lib.hid (CgB.new w x)
  have HB := Lib.hid ((Below.refl w.heap.size w).alloc (Nat.le_refl _) (.cells (cgL x).toArray 81))
  have HO := Lib.hid (info_c hx)
  have HX := Lib.hid hx; clear hx
  obtain ⟨b, hb⟩ : ∃ b, decide (x.o = x.n) = b := ⟨_, rfl⟩
  have hid : ∀ w, Calls Tryd.prog 105 #[.agg (cgL x).toArray] w fun e w' => e = .returned (.bool b) ∧ Below w.heap.size w w' := fun w => by rw [← hb]; exact idle_any x w HX.out
  have HID := Lib.hid hid; clear hid
  cases b
  · have HZ : Hid (badC x = !pathB x.p) := by show _ = _; unfold badC; rw [hb]; rfl
    clear hb
    go_enter Tryd.func106, Tryd.ntmps106
    go_wp2_with (generalize hw0 : World.alloc w _ = w0; have hr : CgB w0 w.heap.size x := (by rw [← hw0]; exact HN.out); have hbb : Below w.heap.size w w0 := (by rw [← hw0]; exact HB.out); have hp := hr.p; have HR := Lib.hid hr; have hs : w.heap.size < w0.heap.size := (Array.getElem?_eq_some_iff.1 hr).1; have HBB := Lib.hid hbb; clear hw0 hr hbb; refine wpList_load_row rfl 81 _ rfl w.heap.size rfl _ _ _ _ HR.out Tryd.underlying81 rfl (by simpa using HO.out) ?_)
    refine (HID.out _).mono ?_
    rintro e w1 ⟨rfl, hb1⟩
    have hp1 := (HR.out.below hb1 hs).p
    have HB1 := Lib.hid hb1; clear hb1
    go_wp2_with fail
    refine (Path_any x.p _).mono ?_
    rintro e w2 ⟨rfl, hb2⟩
    have HB2 := Lib.hid hb2; clear hb2
    go_wp2
    go_ret
    exact ⟨ret_boolP HZ.out.symm, (HBB.out.trans (HB1.out.mono HBB.out.size)).trans (HB2.out.mono (Nat.le_trans HBB.out.size HB1.out.size))⟩
  · have HZ : Hid (badC x = true) := by show _ = _; unfold badC; rw [hb]; rfl
    clear hb
    go_enter Tryd.func106, Tryd.ntmps106
    go_wp2_with (generalize hw0 : World.alloc w _ = w0; have hr : CgB w0 w.heap.size x := (by rw [← hw0]; exact HN.out); have hbb : Below w.heap.size w w0 := (by rw [← hw0]; exact HB.out); have HR := Lib.hid hr; have HBB := Lib.hid hbb; clear hw0 hr hbb; refine wpList_load_row rfl 81 _ rfl w.heap.size rfl _ _ _ _ HR.out Tryd.underlying81 rfl (by simpa using HO.out) ?_)
    refine (HID.out _).mono ?_
    rintro e w1 ⟨rfl, hb1⟩
    have HB1 := Lib.hid hb1; clear hb1
    go_wp2
    go_ret
    exact ⟨ret_boolP HZ.out.symm, HBB.out.trans (HB1.out.mono HBB.out.size)⟩

/-- slices of entries, of changes, all below block B -/
structure EnsIn (w : World) (B : Nat) (sp : Option Addr) (n cap : Nat) (l : List En) : Prop where
  len : l.length = n
  ok : ∀ x ∈ l, OkE x
  cells : 0 < n → ∃ b off, sp = some ⟨b, off, none⟩ ∧ b < B ∧ n ≤ cap ∧ ∀ i x, l[i]? = some x → w.rangeAt b (off + i * 33) (enL x)
structure CgsIn (w : World) (B : Nat) (sp : Option Addr) (n cap : Nat) (l : List Cg) : Prop where
  len : l.length = n
  ok : ∀ x ∈ l, OkC x
  cells : 0 < n → ∃ b off, sp = some ⟨b, off, none⟩ ∧ b < B ∧ n ≤ cap ∧ ∀ i x, l[i]? = some x → w.rangeAt b (off + i * 65) (cgL x)
theorem range_belowS {w w' : World} {b o B : Nat} {cs : List Value} (h : w.rangeAt b o cs) (hb : Below B w w') (hlt : b < B) : w'.rangeAt b o cs := fun j v hv => (hb.cell (p := ⟨b, o + j, none⟩) hlt).trans (h j v hv)
theorem EnsIn.below {w w' : World} {B B' : Nat} {sp : Option Addr} {n cap : Nat} {l : List En} (h : EnsIn w B sp n cap l) (hb : Below B' w w') (hB : B ≤ B') : EnsIn w' B' sp n cap l :=
  ⟨h.len, h.ok, fun hn => by
    obtain ⟨b, off, e, hlt, hc, hr⟩ := h.cells hn
    exact ⟨b, off, e, by omega, hc, fun i x hi => range_belowS (hr i x hi) hb (by omega)⟩⟩
theorem CgsIn.below {w w' : World} {B B' : Nat} {sp : Option Addr} {n cap : Nat} {l : List Cg} (h : CgsIn w B sp n cap l) (hb : Below B' w w') (hB : B ≤ B') : CgsIn w' B' sp n cap l :=
  ⟨h.len, h.ok, fun hn => by
    obtain ⟨b, off, e, hlt, hc, hr⟩ := h.cells hn
    exact ⟨b, off, e, by omega, hc, fun i x hi => range_belowS (hr i x hi) hb (by omega)⟩⟩

/-- what IndexFunc answers -/
def IdxResE (w : World) (a : Bool) (e : Ending) (w' : World) : Prop := ∃ r : Int, e = .returned (.int .i64 r) ∧ decide (r ≥ 0) = a ∧ Below w.heap.size w w'
set_option maxRecDepth 100000 in
set_option maxHeartbeats 400000 in
theorem indexE_any (sp : Option Addr) (n cap : Nat) (l : List En) (w : World) (hl : EnsIn w w.heap.size sp n cap l) (hn : n ≤ 1000000) :
    Calls Tryd.prog 99 #[.slice sp n cap, .func (.func 49) #[] #[]] w (IdxResE w (l.any badE)) := by
  have HL := Lib.hid hl
  clear hl
  go_enter Tryd.func99, Tryd.ntmps99
  go_wp2_with fail
  go_loopw [8] (fun i wr => ∃ k : Nat, k ≤ n ∧ i = .int .i64 k ∧ Hid ((l.take k).any badE = false) ∧ Hid (Below w.heap.size w wr)) (fun i _ => n - (intOf i).toNat)
  case atStart => exact ⟨0, Nat.zero_le _, rfl, rfl, Below.refl _ _⟩
  case round =>
    obtain ⟨k, hk, rfl, HA, hbe⟩ := hrel
    by_cases hlt : k < n
    · have hd : decide ((k : Int) < (n : Int)) = true := by simp; omega
      obtain ⟨b, off, rfl, hbB, hcap, hr⟩ := HL.out.cells (by omega)
      have hkl : k < l.length := by rw [HL.out.len]; exact hlt
      obtain ⟨x, hx⟩ : ∃ x, l[k]? = some x := ⟨l[k], List.getElem?_eq_getElem hkl⟩
      have hxm : x ∈ l := List.mem_of_getElem? hx
      have HR := Lib.hid (range_belowS (hr k x hx) hbe.out hbB)
      have HI := Lib.hid (info_e (HL.out.ok x hxm))
      have HT : Hid ((l.take (k + 1)).any badE = ((l.take k).any badE || badE x)) := by show _ = _; rw [List.take_add_one, List.any_append, hx]; simp
      have HM : Hid (badE x = true → l.any badE = true) := fun h => List.any_eq_true.2 ⟨x, hxm, h⟩
      have p1 : (0 : Int) ≤ (k : Int) := by omega
      have p2 : (k : Int) < (n : Int) := by omega
      have hF := fun w' => incorrect_any x w' (HL.out.ok x hxm)
      clear hr hx hxm hkl
      obtain ⟨c, hc⟩ : ∃ c, badE x = c := ⟨_, rfl⟩
      rw [hc] at hF
      have HC := Lib.hid hF; have HQ := Lib.hid hc
      clear hF hc
      cases c
      · go_wp2_with (refine wpList_load_mid rfl 70 _ rfl b (off + k * 33) rfl _ _ HR.out Tryd.underlying70 rfl HI.out ?_)
        refine (HC.out _).mono ?_
        rintro e w1 ⟨rfl, hb1⟩
        have HB1 := Lib.hid (hbe.out.trans (hb1.mono hbe.out.size)); clear hb1
        go_wp2_with fail
        go_roundw
        case rel => exact ⟨k + 1, hlt, by go_num, by show _ = _; rw [HT.out, HA.out, HQ.out]; rfl, HB1.out⟩
        case measure => simp [intOf]; omega
      · go_wp2_with (refine wpList_load_mid rfl 70 _ rfl b (off + k * 33) rfl _ _ HR.out Tryd.underlying70 rfl HI.out ?_)
        refine (HC.out _).mono ?_
        rintro e w1 ⟨rfl, hb1⟩
        have HB1 := Lib.hid (hbe.out.trans (hb1.mono hbe.out.size)); clear hb1
        go_wp2_with fail
        go_ret
        exact ⟨k, rfl, by rw [HM.out HQ.out]; simp, HB1.out⟩
    · obtain rfl : k = n := by omega
      have hd : decide ((k : Int) < (k : Int)) = false := by simp
      have HZ : Hid (l.any badE = false) := by have := HA.out; rw [List.take_of_length_le (by rw [HL.out.len]; exact Nat.le_refl _)] at this; exact this
      go_wp2_with fail
      go_ret
      exact ⟨-1, rfl, by rw [HZ.out]; rfl, hbe.out⟩
set_option maxHeartbeats 400000 in
theorem containsE_any (sp : Option Addr) (n cap : Nat) (l : List En) (w : World) (hl : EnsIn w w.heap.size sp n cap l) (hn : n ≤ 1000000) :
    Calls Tryd.prog 48 #[.slice sp n cap, .func (.func 49) #[] #[]] w fun e w' => e = .returned (.bool (l.any badE)) ∧ Below w.heap.size w w' := by
  have HL := Lib.hid hl
  clear hl
  go_enter Tryd.func48, Tryd.ntmps48
  go_wp2_with fail
  refine (indexE_any sp n cap l _ HL.out hn).mono ?_
  rintro e w1 ⟨r, rfl, hr, hb⟩
  have HR := Lib.hid hr; have HB := Lib.hid hb; clear hr hb
  go_wp2_with fail
  go_ret
  exact ⟨ret_boolP HR.out, HB.out⟩
set_option maxRecDepth 100000 in
set_option maxHeartbeats 400000 in
theorem indexU_any (sp : Option Addr) (n cap : Nat) (l : List Cg) (w : World) (hl : CgsIn w w.heap.size sp n cap l) (hn : n ≤ 1000000) :
    Calls Tryd.prog 109 #[.slice sp n cap, .func (.func 106) #[] #[]] w (IdxResE w (l.any badC)) := by
  have HL := Lib.hid hl
  clear hl
  go_enter Tryd.func109, Tryd.ntmps109
  go_wp2_with fail
  go_loopw [8] (fun i wr => ∃ k : Nat, k ≤ n ∧ i = .int .i64 k ∧ Hid ((l.take k).any badC = false) ∧ Hid (Below w.heap.size w wr)) (fun i _ => n - (intOf i).toNat)
  case atStart => exact ⟨0, Nat.zero_le _, rfl, rfl, Below.refl _ _⟩
  case round =>
    obtain ⟨k, hk, rfl, HA, hbe⟩ := hrel
    by_cases hlt : k < n
    · have hd : decide ((k : Int) < (n : Int)) = true := by simp; omega
      obtain ⟨b, off, rfl, hbB, hcap, hr⟩ := HL.out.cells (by omega)
      have hkl : k < l.length := by rw [HL.out.len]; exact hlt
      obtain ⟨x, hx⟩ : ∃ x, l[k]? = some x := ⟨l[k], List.getElem?_eq_getElem hkl⟩
      have hxm : x ∈ l := List.mem_of_getElem? hx
      have HR := Lib.hid (range_belowS (hr k x hx) hbe.out hbB)
      have HI := Lib.hid (info_c (HL.out.ok x hxm))
      have HT : Hid ((l.take (k + 1)).any badC = ((l.take k).any badC || badC x)) := by show _ = _; rw [List.take_add_one, List.any_append, hx]; simp
      have HM : Hid (badC x = true → l.any badC = true) := fun h => List.any_eq_true.2 ⟨x, hxm, h⟩
      have p1 : (0 : Int) ≤ (k : Int) := by omega
      have p2 : (k : Int) < (n : Int) := by omega
      have hF := fun w' => unfit_any x w' (HL.out.ok x hxm)
      clear hr hx hxm hkl
      obtain ⟨c, hc⟩ : ∃ c, badC x = c := ⟨_, rfl⟩
      rw [hc] at hF
      have HC := Lib.hid hF; have HQ := Lib.hid hc
      clear hF hc
      cases c
      · go_wp2_with (refine wpList_load_mid rfl 81 _ rfl b (off + k * 65) rfl _ _ HR.out Tryd.underlying81 rfl HI.out ?_)
        refine (HC.out _).mono ?_
        rintro e w1 ⟨rfl, hb1⟩
        have HB1 := Lib.hid (hbe.out.trans (hb1.mono hbe.out.size)); clear hb1
        go_wp2_with fail
        go_roundw
        case rel => exact ⟨k + 1, hlt, by go_num, by show _ = _; rw [HT.out, HA.out, HQ.out]; rfl, HB1.out⟩
        case measure => simp [intOf]; omega
      · go_wp2_with (refine wpList_load_mid rfl 81 _ rfl b (off + k * 65) rfl _ _ HR.out Tryd.underlying81 rfl HI.out ?_)
        refine (HC.out _).mono ?_
        rintro e w1 ⟨rfl, hb1⟩
        have HB1 := Lib.hid (hbe.out.trans (hb1.mono hbe.out.size)); clear hb1
        go_wp2_with fail
        go_ret
        exact ⟨k, rfl, by rw [HM.out HQ.out]; simp, HB1.out⟩
    · obtain rfl : k = n := by omega
      have hd : decide ((k : Int) < (k : Int)) = false := by simp
      have HZ : Hid (l.any badC = false) := by have := HA.out; rw [List.take_of_length_le (by rw [HL.out.len]; exact Nat.le_refl _)] at this; exact this
      go_wp2_with fail
      go_ret
      exact ⟨-1, rfl, by rw [HZ.out]; rfl, hbe.out⟩
set_option maxHeartbeats 400000 in
theorem containsU_any (sp : Option Addr) (n cap : Nat) (l : List Cg) (w : World) (hl : CgsIn w w.heap.size sp n cap l) (hn : n ≤ 1000000) :
    Calls Tryd.prog 66 #[.slice sp n cap, .func (.func 106) #[] #[]] w fun e w' => e = .returned (.bool (l.any badC)) ∧ Below w.heap.size w w' := by
  have HL := Lib.hid hl
  clear hl
  go_enter Tryd.func66, Tryd.ntmps66
  go_wp2_with fail
  refine (indexU_any sp n cap l _ HL.out hn).mono ?_
  rintro e w1 ⟨r, rfl, hr, hb⟩
  have HR := Lib.hid hr; have HB := Lib.hid hb; clear hr hb
  go_wp2_with fail
  go_ret
  exact ⟨ret_boolP HR.out, HB.out⟩
set_option maxRecDepth 100000 in
set_option maxHeartbeats 400000 in
theorem indexN_any (sp : Option Addr) (n cap : Nat) (l : List Cg) (w : World) (hl : CgsIn w w.heap.size sp n cap l) (hn : n ≤ 1000000) :
    Calls Tryd.prog 109 #[.slice sp n cap, .func (.func 67) #[] #[]] w (IdxResE w (l.any needB)) := by
  have HL := Lib.hid hl
  clear hl
  go_enter Tryd.func109, Tryd.ntmps109
  go_wp2_with fail
  go_loopw [8] (fun i wr => ∃ k : Nat, k ≤ n ∧ i = .int .i64 k ∧ Hid ((l.take k).any needB = false) ∧ Hid (Below w.heap.size w wr)) (fun i _ => n - (intOf i).toNat)
  case atStart => exact ⟨0, Nat.zero_le _, rfl, rfl, Below.refl _ _⟩
  case round =>
    obtain ⟨k, hk, rfl, HA, hbe⟩ := hrel
    by_cases hlt : k < n
    · have hd : decide ((k : Int) < (n : Int)) = true := by simp; omega
      obtain ⟨b, off, rfl, hbB, hcap, hr⟩ := HL.out.cells (by omega)
      have hkl : k < l.length := by rw [HL.out.len]; exact hlt
      obtain ⟨x, hx⟩ : ∃ x, l[k]? = some x := ⟨l[k], List.getElem?_eq_getElem hkl⟩
      have hxm : x ∈ l := List.mem_of_getElem? hx
      have HR := Lib.hid (range_belowS (hr k x hx) hbe.out hbB)
      have HI := Lib.hid (info_c (HL.out.ok x hxm))
      have HT : Hid ((l.take (k + 1)).any needB = ((l.take k).any needB || needB x)) := by show _ = _; rw [List.take_add_one, List.any_append, hx]; simp
      have HM : Hid (needB x = true → l.any needB = true) := fun h => List.any_eq_true.2 ⟨x, hxm, h⟩
      have p1 : (0 : Int) ≤ (k : Int) := by omega
      have p2 : (k : Int) < (n : Int) := by omega
      have hF := fun w' => needsFile_any x w' (HL.out.ok x hxm)
      clear hr hx hxm hkl
      obtain ⟨c, hc⟩ : ∃ c, needB x = c := ⟨_, rfl⟩
      rw [hc] at hF
      have HC := Lib.hid hF; have HQ := Lib.hid hc
      clear hF hc
      cases c
      · go_wp2_with (refine wpList_load_mid rfl 81 _ rfl b (off + k * 65) rfl _ _ HR.out Tryd.underlying81 rfl HI.out ?_)
        refine (HC.out _).mono ?_
        rintro e w1 ⟨rfl, hb1⟩
        have HB1 := Lib.hid (hbe.out.trans (hb1.mono hbe.out.size)); clear hb1
        go_wp2_with fail
        go_roundw
        case rel => exact ⟨k + 1, hlt, by go_num, by show _ = _; rw [HT.out, HA.out, HQ.out]; rfl, HB1.out⟩
        case measure => simp [intOf]; omega
      · go_wp2_with (refine wpList_load_mid rfl 81 _ rfl b (off + k * 65) rfl _ _ HR.out Tryd.underlying81 rfl HI.out ?_)
        refine (HC.out _).mono ?_
        rintro e w1 ⟨rfl, hb1⟩
        have HB1 := Lib.hid (hbe.out.trans (hb1.mono hbe.out.size)); clear hb1
        go_wp2_with fail
        go_ret
        exact ⟨k, rfl, by rw [HM.out HQ.out]; simp, HB1.out⟩
    · obtain rfl : k = n := by omega
      have hd : decide ((k : Int) < (k : Int)) = false := by simp
      have HZ : Hid (l.any needB = false) := by have := HA.out; rw [List.take_of_length_le (by rw [HL.out.len]; exact Nat.le_refl _)] at this; exact this
      go_wp2_with fail
      go_ret
      exact ⟨-1, rfl, by rw [HZ.out]; rfl, hbe.out⟩
set_option maxHeartbeats 400000 in
theorem containsN_any (sp : Option Addr) (n cap : Nat) (l : List Cg) (w : World) (hl : CgsIn w w.heap.size sp n cap l) (hn : n ≤ 1000000) :
    Calls Tryd.prog 66 #[.slice sp n cap, .func (.func 67) #[] #[]] w fun e w' => e = .returned (.bool (l.any needB)) ∧ Below w.heap.size w w' := by
  have HL := Lib.hid hl
  clear hl
  go_enter Tryd.func66, Tryd.ntmps66
  go_wp2_with fail
  refine (indexN_any sp n cap l _ HL.out hn).mono ?_
  rintro e w1 ⟨r, rfl, hr, hb⟩
  have HR := Lib.hid hr; have HB := Lib.hid hb; clear hr hb
  go_wp2_with fail
  go_ret
  exact ⟨ret_boolP HR.out, HB.out⟩
end Go.Proofs.YtkookkhlgllneaaDoor
