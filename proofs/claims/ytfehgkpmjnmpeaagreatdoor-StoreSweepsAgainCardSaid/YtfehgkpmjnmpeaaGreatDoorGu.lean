/-
  Stores: the sort and CompactFunc at no blob, union of two empty lists.
-/
import Derived.Test.YtfehgkpmjnmpeaaGreatDoorGt
namespace Go.Proofs.YtfehgkpmjnmpeaaGreatDoor
open Go.RowKit Go.Sort

set_option maxRecDepth 100000 in
set_option maxHeartbeats 400000 in
theorem insertion0_any (sp : Option Addr) (cap : Nat) (f : Value) (w : World) :
    Calls Tryz.prog 115 #[.slice sp 0 cap, .int .i64 0, .int .i64 0, f] w fun e w' => e = .returned (.tuple #[]) ∧ Below w.heap.size w w' := by
  go_enter Tryz.func115, Tryz.ntmps115
  go_wp2_with fail
  go_loopw [8] (fun i wr => i = .int .i64 1 ∧ Hid (Below w.heap.size w wr)) (fun i _ => 0)
  case atStart => exact ⟨rfl, Below.refl _ _⟩
  case round =>
    obtain ⟨rfl, hbe⟩ := hrel
    go_wp2_with fail
    go_end0
    exact ⟨rfl, hbe.out⟩
set_option maxRecDepth 100000 in
set_option maxHeartbeats 400000 in
theorem stable0_any (sp : Option Addr) (cap : Nat) (f : Value) (w : World) :
    Calls Tryz.prog 94 #[.slice sp 0 cap, .int .i64 0, f] w fun e w' => e = .returned (.tuple #[]) ∧ Below w.heap.size w w' := by
  go_enter Tryz.func94, Tryz.ntmps94
  go_wp2_with fail
  go_loopw [7, 8] (fun i j wr => i = .int .i64 0 ∧ j = .int .i64 20 ∧ Hid (Below w.heap.size w wr)) (fun _ _ _ => 0)
  case atStart => exact ⟨rfl, rfl, Below.refl _ _⟩
  case round =>
    obtain ⟨rfl, rfl, hbe⟩ := hrel
    go_wp2_with fail
    refine (insertion0_any sp cap f _).mono ?_
    rintro e w1 ⟨rfl, hb1⟩
    have HB1 := Lib.hid (hbe.out.trans (hb1.mono hbe.out.size)); clear hb1
    go_wp2_with fail
    go_loopw [6] (fun i wr => i = .int .i64 20 ∧ Hid (Below w.heap.size w wr)) (fun _ _ => 0)
    case atStart => exact ⟨rfl, HB1.out⟩
    case round =>
      obtain ⟨rfl, hbe2⟩ := hrel
      go_wp2_with fail
      go_end0
      exact ⟨rfl, hbe2.out⟩
set_option maxRecDepth 100000 in
set_option maxHeartbeats 400000 in
theorem sort0_any (sp : Option Addr) (cap : Nat) (f : Value) (w : World) :
    Calls Tryz.prog 67 #[.slice sp 0 cap, f] w fun e w' => e = .returned (.tuple #[]) ∧ Below w.heap.size w w' := by
  go_enter Tryz.func67, Tryz.ntmps67
  go_wp2_with fail
  refine (stable0_any sp cap f _).mono ?_
  rintro e w1 ⟨rfl, hb1⟩
  have HB1 := Lib.hid hb1; clear hb1
  go_wp2_with fail
  go_end0
  exact ⟨rfl, HB1.out⟩
set_option maxRecDepth 100000 in
set_option maxHeartbeats 400000 in
theorem compact0_any (sp : Option Addr) (cap : Nat) (f : Value) (w : World) :
    Calls Tryz.prog 69 #[.slice sp 0 cap, f] w fun e w' => e = .returned (.slice sp 0 cap) ∧ w = w' := by
  go_enter Tryz.func69, Tryz.ntmps69
  go_wp2_with fail
  go_ret
  exact ⟨rfl, rfl⟩
set_option maxRecDepth 100000 in
set_option maxHeartbeats 1000000 in
theorem unionZ_any (spa : Option Addr) (na ca : Nat) (la : List Bl) (spb : Option Addr) (nb cb : Nat) (lb : List Bl) (w : World) (ha : BlsIn w w.heap.size spa na ca la) (hb : BlsIn w w.heap.size spb nb cb lb) (hna : spa = none → ca = 0) (hnb : spb = none → cb = 0) (h1 : na + nb = 0) :
    Calls Tryz.prog 44 #[.slice spa na ca, .slice spb nb cb] w fun e w' => ∃ sp cap, e = .returned (.slice sp 0 cap) ∧ OwnB w' w.heap.size (.slice sp 0 cap) [] ∧ Below w.heap.size w w' := by
  have HA := Lib.hid ha; have HBb := Lib.hid hb; have HNA := Lib.hid hna; have HNB := Lib.hid hnb
  have HLEN := Lib.hid (show (la ++ lb).length = na + nb by rw [List.length_append, ha.len, hb.len])
  clear ha hb hna hnb
  have hcc : ∀ w1, Below w.heap.size w w1 → ∀ b, w1.heap[b]? = some (.cells #[.slice spa na ca, .slice spb nb cb] 22 (0, 0)) → w.heap.size ≤ w1.heap.size →
      Calls Tryz.prog 66 #[.slice (some ⟨b, 0, none⟩) 2 2] w1 fun e w' => ∃ sp cap, e = .returned (.slice sp (na + nb) cap) ∧ OwnB w' w1.heap.size (.slice sp (na + nb) cap) (la ++ lb) ∧ Below w1.heap.size w1 w' := by
    intro w1 hb b hg hs
    have hbl := (Array.getElem?_eq_some_iff.1 hg).1
    have hp : LbsIn w1 w1.heap.size (some ⟨b, 0, none⟩) 2 [⟨spa, na, ca, la⟩, ⟨spb, nb, cb, lb⟩] := by
      refine ⟨rfl, fun _ => ⟨b, 0, rfl, hbl, fun j hj => ?_⟩, fun q hq => ?_⟩
      · rw [Nat.zero_add, cell_of_row w1 b j _ _ _ hg]
        have : j = 0 ∨ j = 1 := by simp at hj; omega
        rcases this with rfl | rfl <;> rfl
      · simp at hq
        rcases hq with rfl | rfl
        · exact HA.out.up hb (Nat.le_refl _)
        · exact HBb.out.up hb (Nat.le_refl _)
    have hfl : ([⟨spa, na, ca, la⟩, ⟨spb, nb, cb, lb⟩] : List Lb).map (·.l) = [la, lb] := rfl
    have hfe : ([la, lb] : List (List Bl)).flatten = la ++ lb := by simp
    refine (concatB_any (some ⟨b, 0, none⟩) 2 2 _ w1 hp ?_ (by rw [hfl, hfe, HLEN.out]; omega) (by omega)).mono ?_
    · intro q hq
      simp at hq
      rcases hq with rfl | rfl
      · exact HNA.out
      · exact HNB.out
    · rintro e w' ⟨sp, n, cap, rfl, hn, ho, hb2⟩
      rw [hfl, hfe] at hn ho
      rw [HLEN.out] at hn
      subst hn
      exact ⟨sp, cap, rfl, ho, hb2⟩
  have HCC := Lib.hid hcc; clear hcc
  have HRB := Lib.hid (fun w : World => (show (Instr.buildSlice 122 2 #[(0, .slice spa na ca), (1, .slice spb nb cb)]).run Tryz.prog w = .ok (.slice (some ⟨w.heap.size, 0, none⟩) 2 2) (w.alloc (.cells #[.slice spa na ca, .slice spb nb cb] 22)) by kernel_rfl))
  go_enter Tryz.func44, Tryz.ntmps44
  go_wp2_with (refine wpList_slice_eqG rfl 122 2 [(0, .tmp 6), (1, .tmp 7)] rfl [(0, .slice spa na ca), (1, .slice spb nb cb)] rfl _ _ (HRB.out _) ?_; generalize hw0 : World.alloc w _ = w0; have hg0 := (by rw [← hw0]; exact heap_alloc_new w _ : w0.heap[w.heap.size]? = some (.cells #[.slice spa na ca, .slice spb nb cb] 22 (0, 0))); have hb0 := (by rw [← hw0]; exact (Below.refl _ _).alloc (Nat.le_refl _) _ : Below w.heap.size w w0); have HG0 := Lib.hid hg0; have HB0 := Lib.hid hb0; clear hw0 hg0 hb0)
  refine (HCC.out _ HB0.out _ HG0.out HB0.out.size).mono ?_
  rintro e w1 ⟨sp, cap, rfl, ho, hb1⟩
  have hz : la ++ lb = [] := List.eq_nil_of_length_eq_zero (by rw [HLEN.out]; exact h1)
  rw [hz] at ho
  rw [h1] at ho
  have HO := Lib.hid (ho.base HB0.out.size); have HB1 := Lib.hid (HB0.out.trans (hb1.mono HB0.out.size)); clear ho hb1
  rw [h1]
  have HS := Lib.hid (fun f => sort0_any sp cap f w1)
  go_wp2_with fail
  refine (HS.out _).mono ?_
  rintro e w2 ⟨rfl, hb2⟩
  have HO2 := Lib.hid (HO.out.below hb2)
  have HB2 := Lib.hid (HB1.out.trans (hb2.mono HB1.out.size))
  clear hb2
  go_wp2_with fail
  refine (compact0_any sp cap _ w2).mono ?_
  rintro e w3 ⟨rfl, rfl⟩
  go_wp2_with fail
  go_ret
  exact ⟨sp, cap, rfl, HO2.out, HB2.out⟩
end Go.Proofs.YtfehgkpmjnmpeaaGreatDoor

namespace Go.Proofs.YtfehgkpmjnmpeaaGreatDoor
open Go.RowKit Go.Sort

theorem ints_uOf {b : List Int} (h : Byt b) : (uOf b).map (fun u => (u.toNat : Int)) = b := by
  apply List.ext_getElem
  · simp [uOf]
  · intro i h1 h2
    have h3 : i < (uOf b).length := by simpa using h1
    rw [List.getElem_map, uOf_at h h3, List.getD_eq_getElem?_getD, List.getElem?_eq_getElem h2]; rfl
theorem uOf_inj {a b : List Int} (ha : Byt a) (hb : Byt b) : ((⟨(uOf a).toArray⟩ : ByteArray) = ⟨(uOf b).toArray⟩) ↔ a = b := by
  constructor
  · intro h
    have h1 : (uOf a).toArray = (uOf b).toArray := congrArg ByteArray.data h
    have h2 : uOf a = uOf b := by simpa using h1
    rw [← ints_uOf ha, ← ints_uOf hb, h2]
  · rintro rfl; rfl
set_option maxRecDepth 100000 in
theorem equalB_any (sp1 : Option Addr) (n1 c1 : Nat) (b1 : List Int) (sp2 : Option Addr) (n2 c2 : Nat) (b2 : List Int) (w : World) (h1 : Src w w.heap.size sp1 n1 c1 b1) (h2 : Src w w.heap.size sp2 n2 c2 b2) :
    Calls Tryz.prog 65 #[.slice sp1 n1 c1, .slice sp2 n2 c2] w fun e w' => e = .returned (.bool (decide (b1 = b2))) ∧ w = w' := by
  have k1 := conv_src h1 c1
  have k2 := conv_src h2 c2
  have HU := Lib.hid (uOf_inj h1.byt h2.byt)
  clear h1 h2
  generalize hs1 : (⟨(uOf b1).toArray⟩ : ByteArray) = s1 at *
  generalize hs2 : (⟨(uOf b2).toArray⟩ : ByteArray) = s2 at *
  clear hs1 hs2
  go_enter Tryz.func65, Tryz.ntmps65
  go_wp2_with fail
  go_ret
  refine ⟨?_, rfl⟩
  have := HU.out
  by_cases h : b1 = b2
  · have h' := this.2 h; subst h'; simp [h]
  · have h' : ¬ s1 = s2 := fun e => h (this.1 e)
    have h2 : ¬ s1.toList = s2.toList := fun e => h' (by
      rw [ByteArray.toList_eq, ByteArray.toList_eq] at e
      exact ByteArray.ext (Array.toList_inj.1 e))
    simp [h, h', h2]
/-- does the list hold another blob with the digest of y -/
def conP (la : List Bl) (y : Bl) : Bool := match la.find? (fun x => decide (x.d = y.d)) with
  | some x => !decide (x.b = y.b)
  | none => false
theorem conP_none {la : List Bl} {y : Bl} (h : ∀ x ∈ la, x.d ≠ y.d) : conP la y = false := by
  unfold conP
  rw [List.find?_eq_none.2 (fun x hx => by simpa using h x hx)]
theorem conP_some {la : List Bl} {y x : Bl} {k : Nat} (hk : la[k]? = some x) (hd : x.d = y.d) (hb : ∀ z ∈ la.take k, z.d ≠ y.d) : conP la y = !decide (x.b = y.b) := by
  unfold conP
  have hlt := (List.getElem?_eq_some_iff.1 hk).1
  have e : la = la.take k ++ x :: la.drop (k + 1) := by
    have h1 : la.drop k = x :: la.drop (k + 1) := by
      rw [List.drop_eq_getElem_cons hlt, (List.getElem?_eq_some_iff.1 hk).2]
    rw [← h1, List.take_append_drop]
  have hf : la.find? (fun z => decide (z.d = y.d)) = some x := by
    rw [e, List.find?_append, List.find?_eq_none.2 (fun z hz => by simpa using hb z hz), Option.none_or, List.find?_cons_of_pos (by simpa using hd)]
  rw [hf]
set_option maxRecDepth 100000 in
set_option maxHeartbeats 1000000 in
theorem conAt_any (y : Bl) (sp : Option Addr) (n cap : Nat) (la : List Bl) (g : Nat) (w : World) (hy : OkB y) (hdy : DatIn w w.heap.size y) (hl : BlsIn w w.heap.size sp n cap la) (hn : n ≤ 1000000) (hg : w.cell? ⟨g, 0, none⟩ = some (.slice sp n cap)) (hgl : g < w.heap.size) :
    Calls Tryz.prog 64 #[.agg (blL y).toArray, .pointer (some ⟨g, 0, none⟩)] w fun e w' => e = .returned (.bool (conP la y)) ∧ Below w.heap.size w w' := by
  have HIX := Lib.hid (info_d hy)
  have HB := Lib.hid ((Below.refl w.heap.size w).alloc (Nat.le_refl _) (.cells (blL y).toArray 51))
  have HY := Lib.hid (BlB.new w y)
  have HXL := Lib.hid (show w.heap.size < (w.alloc (.cells (blL y).toArray 51)).heap.size by simp)
  have HX := Lib.hid (BlB.new w y).d
  have hc0 := (HB.out.cell (p := ⟨g, 0, none⟩) hgl).trans hg
  have HL := Lib.hid hl; have HDY := Lib.hid hdy; have HOY := Lib.hid hy
  clear hl hdy hg hy
  go_enter Tryz.func64, Tryz.ntmps64
  go_wp2_with (refine wpList_load_mid rfl 32 _ rfl w.heap.size 0 rfl _ _ HX.out Tryz.underlying32 rfl HIX.out ?_)
  generalize hw1 : World.alloc w _ = w1 at *
  have HB1 : Hid (Below w.heap.size w w1) := HB
  have HFD := Lib.hid (find_any sp n cap la y.d w1 (HL.out.up HB1.out (Nat.le_refl _)) hn HOY.out)
  refine HFD.out.mono ?_
  rintro e w2 ⟨⟨rfl, hno⟩ | ⟨k, x, rfl, hk, hxd, hbef⟩, hb2⟩
  · have HC := Lib.hid (conP_none hno)
    have HB2 := Lib.hid (HB1.out.trans (hb2.mono HB1.out.size))
    clear hno hb2 hc0
    go_wp2_with fail
    go_ret
    exact ⟨by rw [HC.out]; rfl, HB2.out⟩
  · have HC := Lib.hid (conP_some hk hxd hbef)
    have HB2 := Lib.hid (HB1.out.trans (hb2.mono HB1.out.size))
    have hys := (BlB.below HY.out hb2 HXL.out).s HOY.out
    have HE := Lib.hid (equalB_any x.sp x.n x.cap x.b y.sp y.n y.cap y.b w2 ((HL.out.dat x (List.mem_of_getElem? hk)).up HB2.out (Nat.le_refl _)).src (HDY.out.up HB2.out (Nat.le_refl _)).src)
    generalize decide (x.b = y.b) = c at *
    clear hk hxd hbef hb2 hc0
    go_wp2_with fail
    refine HE.out.mono ?_
    rintro e w3 ⟨rfl, rfl⟩
    go_wp2_with fail
    go_ret
    exact ⟨by rw [HC.out]; rfl, HB2.out⟩
end Go.Proofs.YtfehgkpmjnmpeaaGreatDoor

namespace Go.Proofs.YtfehgkpmjnmpeaaGreatDoor
open Go.RowKit Go.Sort

set_option maxRecDepth 100000 in
set_option maxHeartbeats 400000 in
theorem indexCon_any (spa : Option Addr) (na ca : Nat) (la : List Bl) (g : Nat) (sp : Option Addr) (n cap : Nat) (l : List Bl) (w : World) (hla : BlsIn w w.heap.size spa na ca la) (hna : na ≤ 1000000) (hg : w.cell? ⟨g, 0, none⟩ = some (.slice spa na ca)) (hgl : g < w.heap.size) (hl : BlsIn w w.heap.size sp n cap l) (hn : n ≤ 1000000) :
    Calls Tryz.prog 56 #[.slice sp n cap, .func (.func 64) #[] #[.pointer (some ⟨g, 0, none⟩)]] w (IdxResB w (l.any (conP la))) := by
  have HL := Lib.hid hl; have HLA := Lib.hid hla; have HGC := Lib.hid hg
  clear hl hla hg
  go_enter Tryz.func56, Tryz.ntmps56
  go_wp2_with fail
  go_loopw [8] (fun i wr => ∃ k : Nat, k ≤ n ∧ i = .int .i64 k ∧ Hid ((l.take k).any (conP la) = false) ∧ Hid (Below w.heap.size w wr)) (fun i _ => n - (intOf i).toNat)
  case atStart => exact ⟨0, Nat.zero_le _, rfl, rfl, Below.refl _ _⟩
  case round =>
    obtain ⟨k, hk, rfl, HA, hbe⟩ := hrel
    by_cases hlt : k < n
    · have hd : decide ((k : Int) < (n : Int)) = true := by simp; omega
      obtain ⟨b, off, rfl, hbB, hcap, hr⟩ := HL.out.cells (by omega)
      have hkl : k < l.length := by rw [HL.out.len]; exact hlt
      obtain ⟨x, hx⟩ : ∃ x, l[k]? = some x := ⟨l[k], List.getElem?_eq_getElem hkl⟩
      have hxm : x ∈ l := List.mem_of_getElem? hx
      have HR := Lib.hid (range_belowG (hr k x hx) hbe.out hbB)
      have HI := Lib.hid (info_b (HL.out.ok x hxm))
      have HT : Hid ((l.take (k + 1)).any (conP la) = ((l.take k).any (conP la) || conP la x)) := by show _ = _; rw [List.take_add_one, List.any_append, hx]; simp
      have HM : Hid (conP la x = true → l.any (conP la) = true) := fun h => List.any_eq_true.2 ⟨x, hxm, h⟩
      have p1 : (0 : Int) ≤ (k : Int) := by omega
      have p2 : (k : Int) < (n : Int) := by omega
      have hF := conAt_any x spa na ca la g wr (HL.out.ok x hxm) ((HL.out.dat x hxm).up hbe.out (Nat.le_refl _)) (HLA.out.up hbe.out (Nat.le_refl _)) hna ((hbe.out.cell (p := ⟨g, 0, none⟩) hgl).trans HGC.out) (by have := hbe.out.size; omega)
      clear hr hx hxm hkl
      obtain ⟨c, hc⟩ : ∃ c, conP la x = c := ⟨_, rfl⟩
      rw [hc] at hF
      have HC := Lib.hid hF; have HQ := Lib.hid hc
      clear hF hc
      cases c
      · go_wp2_with (refine wpList_load_mid rfl 51 _ rfl b (off + k * 33) rfl _ _ HR.out Tryz.underlying51 rfl HI.out ?_)
        refine HC.out.mono ?_
        rintro e w1 ⟨rfl, hb1⟩
        have HB1 := Lib.hid (hbe.out.trans (hb1.mono hbe.out.size)); clear hb1
        go_wp2_with fail
        go_roundw
        case rel => exact ⟨k + 1, hlt, by go_num, by show _ = _; rw [HT.out, HA.out, HQ.out]; rfl, HB1.out⟩
        case measure => simp [intOf]; omega
      · go_wp2_with (refine wpList_load_mid rfl 51 _ rfl b (off + k * 33) rfl _ _ HR.out Tryz.underlying51 rfl HI.out ?_)
        refine HC.out.mono ?_
        rintro e w1 ⟨rfl, hb1⟩
        have HB1 := Lib.hid (hbe.out.trans (hb1.mono hbe.out.size)); clear hb1
        go_wp2_with fail
        go_ret
        exact ⟨k, rfl, by rw [HM.out HQ.out]; simp, HB1.out⟩
    · obtain rfl : k = n := by omega
      have hd : decide ((k : Int) < (k : Int)) = false := by simp
      have HZ : Hid (l.any (conP la) = false) := by have := HA.out; rw [List.take_of_length_le (by rw [HL.out.len]; exact Nat.le_refl _)] at this; exact this
      go_wp2_with fail
      go_ret
      exact ⟨-1, rfl, by rw [HZ.out]; rfl, hbe.out⟩
set_option maxHeartbeats 400000 in
theorem containsCon_any (spa : Option Addr) (na ca : Nat) (la : List Bl) (g : Nat) (sp : Option Addr) (n cap : Nat) (l : List Bl) (w : World) (hla : BlsIn w w.heap.size spa na ca la) (hna : na ≤ 1000000) (hg : w.cell? ⟨g, 0, none⟩ = some (.slice spa na ca)) (hgl : g < w.heap.size) (hl : BlsIn w w.heap.size sp n cap l) (hn : n ≤ 1000000) :
    Calls Tryz.prog 62 #[.slice sp n cap, .func (.func 64) #[] #[.pointer (some ⟨g, 0, none⟩)]] w fun e w' => e = .returned (.bool (l.any (conP la))) ∧ Below w.heap.size w w' := by
  have HI := Lib.hid (indexCon_any spa na ca la g sp n cap l w hla hna hg hgl hl hn)
  clear hl hla hg
  go_enter Tryz.func62, Tryz.ntmps62
  go_wp2_with fail
  refine HI.out.mono ?_
  rintro e w1 ⟨r, rfl, hr, hb⟩
  have HR := Lib.hid hr; have HB := Lib.hid hb; clear hr hb
  go_wp2_with fail
  go_ret
  exact ⟨ret_boolG HR.out, HB.out⟩
set_option maxRecDepth 100000 in
set_option maxHeartbeats 400000 in
theorem contradict_any (spa : Option Addr) (na ca : Nat) (la : List Bl) (spb : Option Addr) (nb cb : Nat) (lb : List Bl) (w : World) (hla : BlsIn w w.heap.size spa na ca la) (hna : na ≤ 1000000) (hlb : BlsIn w w.heap.size spb nb cb lb) (hnb : nb ≤ 1000000) :
    Calls Tryz.prog 43 #[.slice spa na ca, .slice spb nb cb] w fun e w' => e = .returned (.bool (lb.any (conP la))) ∧ Below w.heap.size w w' := by
  have HB := Lib.hid ((Below.refl w.heap.size w).alloc (Nat.le_refl _) (.cells #[.slice spa na ca] 22))
  have HC := Lib.hid (containsCon_any spa na ca la w.heap.size spb nb cb lb (w.alloc (.cells #[.slice spa na ca] 22)) (hla.up HB.out (Nat.le_refl _)) hna (row_newG w _ _ 0 _ rfl) (by simp) (hlb.up HB.out (Nat.le_refl _)) hnb)
  clear hla hlb
  obtain ⟨c, hc⟩ : ∃ c, lb.any (conP la) = c := ⟨_, rfl⟩
  rw [hc] at HC ⊢
  clear hc
  go_enter Tryz.func43, Tryz.ntmps43
  go_wp2_with fail
  refine HC.out.mono ?_
  rintro e w1 ⟨rfl, hb1⟩
  have HB1 := Lib.hid (HB.out.trans (hb1.mono HB.out.size))
  go_wp2_with fail
  go_ret
  exact ⟨rfl, HB1.out⟩
end Go.Proofs.YtfehgkpmjnmpeaaGreatDoor

namespace Go.Proofs.YtfehgkpmjnmpeaaGreatDoor
open Go.RowKit Go.Sort

/-- what two stores hold together -/
structure MrgL (la lb T : List Bl) : Prop where
  asc : AscB T
  mem : ∀ z, z ∈ T ↔ z ∈ la ∨ (z ∈ lb ∧ ∀ y ∈ la, y.d ≠ z.d)
theorem MrgL.det {la lb T T' : List Bl} (h : MrgL la lb T) (h' : MrgL la lb T') : T = T' := srt_ext h.asc h'.asc (fun z => (h.mem z).trans (h'.mem z).symm)
set_option maxRecDepth 100000 in
theorem unionM_any (spa : Option Addr) (na ca : Nat) (la : List Bl) (spb : Option Addr) (nb cb : Nat) (lb : List Bl) (w : World) (ha : BlsIn w w.heap.size spa na ca la) (hb : BlsIn w w.heap.size spb nb cb lb) (hna : spa = none → ca = 0) (hnb : spb = none → cb = 0) (h2 : na + nb ≤ 1000000) (sa : AscB la) (sb : AscB lb) :
    Calls Tryz.prog 44 #[.slice spa na ca, .slice spb nb cb] w fun e w' => ∃ sp m cap T, e = .returned (.slice sp m cap) ∧ T.length = m ∧ OwnB w' w.heap.size (.slice sp m cap) T ∧ MrgL la lb T ∧ Below w.heap.size w w' := by
  by_cases h0 : na + nb = 0
  · have ea : la = [] := List.eq_nil_of_length_eq_zero (by rw [ha.len]; omega)
    have eb : lb = [] := List.eq_nil_of_length_eq_zero (by rw [hb.len]; omega)
    refine (unionZ_any spa na ca la spb nb cb lb w ha hb hna hnb h0).mono ?_
    rintro e w' ⟨sp, cap, rfl, ho, hbe⟩
    exact ⟨sp, 0, cap, [], rfl, rfl, ho, ⟨List.Pairwise.nil, fun z => by rw [ea, eb]; simp⟩, hbe⟩
  · have hok : ∀ x ∈ la ++ lb, OkB x := fun x hx => by
      rcases List.mem_append.1 hx with h | h
      · exact ha.ok x h
      · exact hb.ok x h
    refine (unionB_any spa na ca la spb nb cb lb w ha hb hna hnb (by omega) h2 hok).mono ?_
    rintro e w' ⟨g, m, cap, M, rfl, hs, hm, ho, hbe⟩
    obtain ⟨tg, ht⟩ := hs.tagged
    exact ⟨_, m, cap, _, rfl, hm.symm, ho, ⟨(cpt_asc ht _ (Nat.le_refl _)).1, fun z => (cpt_first ht).trans (first_mem sa sb z)⟩, hbe⟩
/-- what Merge answers -/
def MrgR (la lb : List Bl) (base : Nat) (e : Ending) (w' : World) : Prop :=
  ((vldP (la.map bp) && vldP (lb.map bp)) = false ∧ e = .returned (.tuple #[.slice none 0 0, .int .i64 1])) ∨
  ((vldP (la.map bp) && vldP (lb.map bp)) = true ∧ ((lb.any (conP la) = true ∧ e = .returned (.tuple #[.slice none 0 0, .int .i64 9])) ∨
    (lb.any (conP la) = false ∧ ∃ T, MrgL la lb T ∧ ((256 < T.length ∧ e = .returned (.tuple #[.slice none 0 0, .int .i64 3])) ∨
      (T.length ≤ 256 ∧ ∃ sp' cap' L m, e = .returned (.tuple #[.slice sp' m cap', .int .i64 0]) ∧ m = T.length ∧ L.length = m ∧ L.map bp = T.map bp ∧ Sto w' base sp' m cap' L)))))
theorem vld_small {l : List Bl} {w : World} {B : Nat} {sp : Option Addr} {n cap : Nat} (hv : vldP (l.map bp) = true) (hl : BlsIn w B sp n cap l) : ∀ y ∈ l, y.n ≤ 262144 := fun y h => by
  unfold vldP at hv
  rw [Bool.and_eq_true] at hv
  have h3 := List.all_eq_true.1 hv.2 (bp y) (List.mem_map_of_mem h)
  have h4 : y.b.length ≤ 262144 := of_decide_eq_true h3
  have h5 := (hl.dat y h).src.len
  omega
set_option maxRecDepth 100000 in
set_option maxHeartbeats 1000000 in
theorem merge_any (spa : Option Addr) (na ca : Nat) (la : List Bl) (spb : Option Addr) (nb cb : Nat) (lb : List Bl) (w : World) (hla : BlsIn w w.heap.size spa na ca la) (hlb : BlsIn w w.heap.size spb nb cb lb) (hnla : spa = none → ca = 0) (hnlb : spb = none → cb = 0) (hna : na ≤ 400000) (hnb : nb ≤ 400000) :
    Calls Tryz.prog 19 #[.slice spa na ca, .slice spb nb cb] w fun e w' => MrgR la lb w.heap.size e w' ∧ Below w.heap.size w w' := by
  have HA := Lib.hid hla; have HB := Lib.hid hlb; have HNA := Lib.hid hnla; have HNB := Lib.hid hnlb
  clear hla hlb hnla hnlb
  have HVA := Lib.hid (valid_bls spa na ca la w HA.out (by omega))
  have HVB := Lib.hid (fun w1 h => valid_bls spb nb cb lb w1 h (by omega))
  obtain ⟨va, hva⟩ : ∃ v, vldP (la.map bp) = v := ⟨_, rfl⟩
  obtain ⟨vb, hvb⟩ : ∃ v, vldP (lb.map bp) = v := ⟨_, rfl⟩
  obtain ⟨c, hc⟩ : ∃ c, lb.any (conP la) = c := ⟨_, rfl⟩
  rw [hva] at HVA; rw [hvb] at HVB
  have HCO := Lib.hid (fun w1 h h' => contradict_any spa na ca la spb nb cb lb w1 h (by omega) h' (by omega))
  rw [hc] at HCO
  have QA := Lib.hid hva; have QB := Lib.hid hvb; have QC := Lib.hid hc
  clear hva hvb hc
  cases va
  · go_enter Tryz.func19, Tryz.ntmps19
    go_wp2_with fail
    refine HVA.out.mono ?_
    rintro e w1 ⟨rfl, hb1⟩
    have HB1 := Lib.hid hb1; clear hb1
    go_wp2_with fail
    go_ret2
    exact ⟨.inl ⟨by rw [QA.out]; rfl, rfl⟩, HB1.out⟩
  go_enter Tryz.func19, Tryz.ntmps19
  go_wp2_with fail
  refine HVA.out.mono ?_
  rintro e w1 ⟨rfl, hb1⟩
  have HB1 := Lib.hid hb1; clear hb1
  go_wp2_with fail
  refine (HVB.out w1 (HB.out.up HB1.out (Nat.le_refl _))).mono ?_
  rintro e w2 ⟨rfl, hb2⟩
  have HB2 := Lib.hid (HB1.out.trans (hb2.mono HB1.out.size)); clear hb2
  cases vb
  · go_wp2_with fail
    go_ret2
    exact ⟨.inl ⟨by rw [QA.out, QB.out]; rfl, rfl⟩, HB2.out⟩
  have HV2 := Lib.hid (show (vldP (la.map bp) && vldP (lb.map bp)) = true by rw [QA.out, QB.out]; rfl)
  go_wp2_with fail
  refine (HCO.out w2 (HA.out.up HB2.out (Nat.le_refl _)) (HB.out.up HB2.out (Nat.le_refl _))).mono ?_
  rintro e w3 ⟨rfl, hb3⟩
  have HB3 := Lib.hid (HB2.out.trans (hb3.mono HB2.out.size)); clear hb3
  cases c
  case true =>
    go_wp2_with fail
    go_ret2
    exact ⟨.inr ⟨HV2.out, .inl ⟨QC.out, rfl⟩⟩, HB3.out⟩
  go_wp2_with fail
  refine (unionM_any spa na ca la spb nb cb lb w3 (HA.out.up HB3.out (Nat.le_refl _)) (HB.out.up HB3.out (Nat.le_refl _)) HNA.out HNB.out (by omega) (AscB.of_vld QA.out) (AscB.of_vld QB.out)).mono ?_
  rintro e w4 ⟨sp4, m4, cap4, T, rfl, hm4, ho4, hmr, hb4⟩
  have HM4 := Lib.hid hm4; have HO4 := Lib.hid ho4; have HMR := Lib.hid hmr
  have HB4 := Lib.hid (HB3.out.trans (hb4.mono HB3.out.size))
  clear hm4 ho4 hmr hb4
  by_cases hgt : m4 ≤ 256
  case neg =>
    have hd5 : decide ((m4 : Int) > 256) = true := by simp; omega
    go_wp2_with fail
    go_ret2
    exact ⟨.inr ⟨HV2.out, .inr ⟨QC.out, T, HMR.out, .inl ⟨by have := HM4.out; omega, rfl⟩⟩⟩, HB4.out⟩
  have hd5 : decide ((m4 : Int) > 256) = false := by simp; omega
  have htd : ∀ y ∈ T, DatIn w4 w4.heap.size y := fun y hy => by
    rcases (HMR.out.mem y).1 hy with h | ⟨h, _⟩
    · exact (HA.out.dat y h).up HB4.out (Nat.le_refl _)
    · exact (HB.out.dat y h).up HB4.out (Nat.le_refl _)
  have htn : ∀ y ∈ T, y.n ≤ 1000000000000 := fun y hy => by
    rcases (HMR.out.mem y).1 hy with h | ⟨h, _⟩
    · have := vld_small QA.out HA.out y h; omega
    · have := vld_small QB.out HB.out y h; omega
  have HCON := Lib.hid (duplicates_any sp4 m4 cap4 T w4 (HO4.out.bls HM4.out htd) (by omega) htn)
  clear htd htn
  go_wp2_with fail
  refine HCON.out.mono ?_
  rintro e w5 ⟨sp5, cap5, L, rfl, hL, hLT, hs, hb5⟩
  have HB5 := Lib.hid (HB4.out.trans (hb5.mono HB4.out.size))
  have HS5 := Lib.hid (hs.base HB4.out.size); have HL5 := Lib.hid hL; have HLT := Lib.hid hLT
  clear hL hLT hs hb5
  go_wp2_with fail
  go_ret2
  exact ⟨.inr ⟨HV2.out, .inr ⟨QC.out, T, HMR.out, .inr ⟨by have := HM4.out; omega, sp5, cap5, L, m4, rfl, HM4.out.symm, HL5.out, HLT.out, HS5.out⟩⟩⟩, HB5.out⟩
end Go.Proofs.YtfehgkpmjnmpeaaGreatDoor

namespace Go.Proofs.YtfehgkpmjnmpeaaGreatDoor
open Go.RowKit Go.Sort

theorem take_snoc {l : List Bl} {k : Nat} {x : Bl} (h : l[k]? = some x) : l.take (k + 1) = l.take k ++ [x] := by rw [List.take_add_one, h]; rfl
theorem MrgL.zero {la : List Bl} (h : AscB la) (lb : List Bl) : MrgL la (lb.take 0) la := ⟨h, fun z => by simp⟩
theorem MrgL.all {la lb T : List Bl} (h : MrgL la (lb.take lb.length) T) : MrgL la lb T := by rw [List.take_length] at h; exact h
theorem MrgL.skip {la lb T : List Bl} {k : Nat} {x : Bl} (h : MrgL la (lb.take k) T) (hx : lb[k]? = some x) (hy : ∃ y ∈ la, y.d = x.d) : MrgL la (lb.take (k + 1)) T :=
  ⟨h.asc, fun z => by
    rw [h.mem z, take_snoc hx, List.mem_append, List.mem_singleton]
    constructor
    · rintro (h1 | ⟨h1, h2⟩)
      · exact .inl h1
      · exact .inr ⟨.inl h1, h2⟩
    · rintro (h1 | ⟨h1 | h1, h2⟩)
      · exact .inl h1
      · exact .inr ⟨h1, h2⟩
      · obtain ⟨y, hy1, hy2⟩ := hy
        rw [h1] at h2
        exact absurd hy2 (h2 y hy1)⟩
theorem MrgL.fresh {la lb T : List Bl} {k : Nat} {x : Bl} (h : MrgL la (lb.take k) T) (sb : AscB lb) (hx : lb[k]? = some x) (hno : ∀ y ∈ la, y.d ≠ x.d) : ∀ y ∈ T, y.d ≠ x.d := fun y hy => by
  rcases (h.mem y).1 hy with h1 | ⟨h1, _⟩
  · exact hno y h1
  · obtain ⟨j, hj, e⟩ := List.getElem_of_mem h1
    have hjk : j < k := by rw [List.length_take] at hj; omega
    have hy2 : lb[j]? = some y := by
      have h3 : (lb.take k)[j]? = some y := by rw [List.getElem?_eq_getElem hj, e]
      rwa [List.getElem?_take, if_pos hjk] at h3
    exact dls_ne (sb.lt hjk hy2 hx)
theorem MrgL.ins {la lb T : List Bl} {k j : Nat} {x : Bl} (h : MrgL la (lb.take k) T) (sb : AscB lb) (hx : lb[k]? = some x) (hno : ∀ y ∈ la, y.d ≠ x.d) (h1 : ∀ y ∈ T.take j, dls y.d x.d = true) (h2 : ∀ y, T[j]? = some y → dls y.d x.d = false) : MrgL la (lb.take (k + 1)) (T.take j ++ x :: T.drop j) :=
  ⟨asc_ins h.asc (h.fresh sb hx hno) h1 h2, fun z => by
    have hz : z ∈ T ↔ z ∈ T.take j ∨ z ∈ T.drop j := by
      conv => lhs; rw [← List.take_append_drop j T]
      exact List.mem_append
    rw [List.mem_append, List.mem_cons, take_snoc hx, List.mem_append, List.mem_singleton]
    constructor
    · rintro (h3 | h3 | h3)
      · rcases (h.mem z).1 (hz.2 (.inl h3)) with h4 | ⟨h4, h5⟩
        · exact .inl h4
        · exact .inr ⟨.inl h4, h5⟩
      · exact .inr ⟨.inr h3, by rw [h3]; exact hno⟩
      · rcases (h.mem z).1 (hz.2 (.inr h3)) with h4 | ⟨h4, h5⟩
        · exact .inl h4
        · exact .inr ⟨.inl h4, h5⟩
    · rintro (h3 | ⟨h3 | h3, h4⟩)
      · rcases hz.1 ((h.mem z).2 (.inl h3)) with h5 | h5
        · exact .inl h5
        · exact .inr (.inr h5)
      · rcases hz.1 ((h.mem z).2 (.inr ⟨h3, h4⟩)) with h5 | h5
        · exact .inl h5
        · exact .inr (.inr h5)
      · exact .inr (.inl h3)⟩
end Go.Proofs.YtfehgkpmjnmpeaaGreatDoor

namespace Go.Proofs.YtfehgkpmjnmpeaaGreatDoor
open Go.RowKit Go.Sort

theorem srtD_ext : ∀ {a b : List Pr}, srtD a → srtD b → (∀ z, z ∈ a ↔ z ∈ b) → a = b
  | [], [], _, _, _ => rfl
  | [], y :: m, _, _, h => absurd ((h y).2 (by simp)) (by simp)
  | x :: l, [], _, _, h => absurd ((h x).1 (by simp)) (by simp)
  | x :: l, y :: m, hl, hm, h => by
    obtain ⟨hl1, hl2⟩ := List.pairwise_cons.1 hl
    obtain ⟨hm1, hm2⟩ := List.pairwise_cons.1 hm
    have hxy : x = y := by
      rcases List.mem_cons.1 ((h x).1 (by simp)) with e | hx
      · exact e
      rcases List.mem_cons.1 ((h y).2 (by simp)) with e | hy
      · exact e.symm
      have h1 := hm1 x hx; have h2 := hl1 y hy
      rw [dls_asymm h1] at h2; cases h2
    subst hxy
    rw [srtD_ext hl2 hm2 (fun c => by
      constructor
      · intro hc
        rcases List.mem_cons.1 ((h c).1 (by simp [hc])) with e | hc'
        · subst e; have := hl1 c hc; rw [dls_irrefl] at this; cases this
        · exact hc'
      · intro hc
        rcases List.mem_cons.1 ((h c).2 (by simp [hc])) with e | hc'
        · subst e; have := hm1 c hc; rw [dls_irrefl] at this; cases this
        · exact hc')]
theorem AscB.one {l : List Bl} (h : AscB l) {x y : Bl} (hx : x ∈ l) (hy : y ∈ l) (he : x.d = y.d) : x = y := by
  induction l with
  | nil => cases hx
  | cons z l ih =>
    obtain ⟨h1, h2⟩ := List.pairwise_cons.1 h
    rcases List.mem_cons.1 hx with e1 | e1 <;> rcases List.mem_cons.1 hy with e2 | e2
    · rw [e1, e2]
    · have := h1 y e2; rw [← e1, he, dls_irrefl] at this; cases this
    · have := h1 x e1; rw [← e2, he, dls_irrefl] at this; cases this
    · exact ih h2 e1 e2
theorem con_no {la : List Bl} {z y : Bl} (h : conP la z = false) (hy : y ∈ la) (he : y.d = z.d) : ∃ x ∈ la, bp x = bp z := by
  unfold conP at h
  cases hf : la.find? (fun x => decide (x.d = z.d)) with
  | none => have := List.find?_eq_none.1 hf y hy; simp [he] at this
  | some x =>
    rw [hf] at h
    have h1 := List.find?_some hf
    have h2 := List.mem_of_find?_eq_some hf
    exact ⟨x, h2, Prod.ext (of_decide_eq_true h1) (show x.b = z.b by simpa using h)⟩
/-- no contradiction with a list that holds it -/
theorem con_in {L : List Bl} {y : Bl} (hL : AscB L) (h : bp y ∈ L.map bp) : conP L y = false := by
  unfold conP
  cases hf : L.find? (fun x => decide (x.d = y.d)) with
  | none => rfl
  | some x =>
    have h0 := List.find?_some hf
    have h1 : x.d = y.d := of_decide_eq_true h0
    have h2 := List.mem_of_find?_eq_some hf
    obtain ⟨z, hz, hzy⟩ := List.mem_map.1 h
    have e1 : z.d = y.d := congrArg Prod.fst hzy
    have e2 : z.b = y.b := congrArg Prod.snd hzy
    have : x = z := hL.one h2 hz (by rw [h1, e1])
    subst this
    simp [e2]
theorem any_no {lb : List Bl} {p : Bl → Bool} : lb.any p = false ↔ ∀ y ∈ lb, p y = false := by
  rw [List.any_eq_false]; constructor
  · intro h y hy; simpa using h y hy
  · intro h y hy; simpa using h y hy
theorem con_swap {la lb : List Bl} (sa : AscB la) (hc : lb.any (conP la) = false) : la.any (conP lb) = false := by
  rw [any_no] at *
  intro x hx
  unfold conP
  cases hf : lb.find? (fun y => decide (y.d = x.d)) with
  | none => rfl
  | some y =>
    have h0 := List.find?_some hf
    have h1 : y.d = x.d := of_decide_eq_true h0
    have h2 := List.mem_of_find?_eq_some hf
    obtain ⟨z, hz, hzy⟩ := con_no (hc y h2) hx h1.symm
    have e1 : z.d = y.d := congrArg Prod.fst hzy
    have e2 : z.b = y.b := congrArg Prod.snd hzy
    have : x = z := sa.one hx hz (by rw [e1, h1])
    subst this
    simp [e2]
theorem mrg_bp {la lb T : List Bl} (h : MrgL la lb T) (hc : lb.any (conP la) = false) (p : Pr) : p ∈ T.map bp ↔ p ∈ la.map bp ∨ p ∈ lb.map bp := by
  rw [any_no] at hc
  constructor
  · intro hp
    obtain ⟨z, hz, rfl⟩ := List.mem_map.1 hp
    rcases (h.mem z).1 hz with h1 | ⟨h1, _⟩
    · exact .inl (List.mem_map_of_mem h1)
    · exact .inr (List.mem_map_of_mem h1)
  · rintro (hp | hp)
    · obtain ⟨z, hz, rfl⟩ := List.mem_map.1 hp
      exact List.mem_map_of_mem ((h.mem z).2 (.inl hz))
    · obtain ⟨z, hz, rfl⟩ := List.mem_map.1 hp
      by_cases hno : ∀ y ∈ la, y.d ≠ z.d
      · exact List.mem_map_of_mem ((h.mem z).2 (.inr ⟨hz, hno⟩))
      · obtain ⟨y, hy⟩ := Classical.not_forall.1 hno
        obtain ⟨hy1, hy2⟩ := Classical.not_imp.1 hy
        obtain ⟨x, hx, hxz⟩ := con_no (hc z hz) hy1 (Classical.not_not.1 hy2)
        rw [← hxz]
        exact List.mem_map_of_mem ((h.mem x).2 (.inl hx))
/-- two merged stores of the same contents are the same -/
theorem mrg_same {la lb T la' lb' T' : List Bl} (h : MrgL la lb T) (hc : lb.any (conP la) = false) (h' : MrgL la' lb' T') (hc' : lb'.any (conP la') = false) (he : ∀ p, p ∈ la.map bp ∨ p ∈ lb.map bp ↔ p ∈ la'.map bp ∨ p ∈ lb'.map bp) : T.map bp = T'.map bp :=
  srtD_ext h.asc.srtD h'.asc.srtD (fun p => by rw [mrg_bp h hc p, mrg_bp h' hc' p]; exact he p)
theorem len_bp {l m : List Bl} (h : l.map bp = m.map bp) : l.length = m.length := by have := congrArg List.length h; simpa using this
/-- what Merge has made answers Get -/
theorem mrg_has {la lb T : List Bl} (h : MrgL la lb T) (hc : lb.any (conP la) = false) {L : List Bl} (hL : L.map bp = T.map bp) {d : List Int} (hd : (∃ y ∈ la, y.d = d) ∨ ∃ y ∈ lb, y.d = d) : ∃ z ∈ L, z.d = d := by
  have : ∃ y : Bl, bp y ∈ L.map bp ∧ y.d = d := by
    rcases hd with ⟨y, hy, rfl⟩ | ⟨y, hy, rfl⟩
    · exact ⟨y, by rw [hL, mrg_bp h hc]; exact .inl (List.mem_map_of_mem hy), rfl⟩
    · exact ⟨y, by rw [hL, mrg_bp h hc]; exact .inr (List.mem_map_of_mem hy), rfl⟩
  obtain ⟨y, hy, rfl⟩ := this
  obtain ⟨z, hz, hzy⟩ := List.mem_map.1 hy
  exact ⟨z, hz, congrArg Prod.fst hzy⟩
end Go.Proofs.YtfehgkpmjnmpeaaGreatDoor
