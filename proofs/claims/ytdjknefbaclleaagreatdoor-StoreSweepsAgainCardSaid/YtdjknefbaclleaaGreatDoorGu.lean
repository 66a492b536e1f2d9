/-
  Stores: the sort and CompactFunc at no blob, union of two empty lists.
-/
import Derived.Test.YtdjknefbaclleaaGreatDoorGt
namespace Go.Proofs.YtdjknefbaclleaaGreatDoor
open Go.RowKit Go.Sort

set_option maxRecDepth 100000 in
set_option maxHeartbeats 400000 in
theorem insertion0_any (sp : Option Addr) (cap : Nat) (f : Value) (w : World) :
    Calls Tryz.prog 113 #[.slice sp 0 cap, .int .i64 0, .int .i64 0, f] w fun e w' => e = .returned (.tuple #[]) ∧ Below w.heap.size w w' := by
  go_enter Tryz.func113, Tryz.ntmps113
  go_wp2_with fail
  go_loopw [8] (fun i wr => i = .int .i64 1 ∧ Hid (Below w.heap.size w wr)) (fun i _ => 0)
  case atStart => exact ⟨rfl, Below.refl _ _⟩
  case round =>
    obtain ⟨rfl, hbe⟩ := hrel
    go_wp2_with fail
    go_end0
    exact ⟨rfl, hbe.out⟩
set_option maxRecDepth 100000 in
set_option maxHeartbeats 400000 in
theorem stable0_any (sp : Option Addr) (cap : Nat) (f : Value) (w : World) :
    Calls Tryz.prog 100 #[.slice sp 0 cap, .int .i64 0, f] w fun e w' => e = .returned (.tuple #[]) ∧ Below w.heap.size w w' := by
  go_enter Tryz.func100, Tryz.ntmps100
  go_wp2_with fail
  go_loopw [7, 8] (fun i j wr => i = .int .i64 0 ∧ j = .int .i64 20 ∧ Hid (Below w.heap.size w wr)) (fun _ _ _ => 0)
  case atStart => exact ⟨rfl, rfl, Below.refl _ _⟩
  case round =>
    obtain ⟨rfl, rfl, hbe⟩ := hrel
    go_wp2_with fail
    refine (insertion0_any sp cap f _).mono ?_
    rintro e w1 ⟨rfl, hb1⟩
    have HB1 := Lib.hid (hbe.out.trans (hb1.mono hbe.out.size)); clear hb1
    go_wp2_with fail
    go_loopw [6] (fun i wr => i = .int .i64 20 ∧ Hid (Below w.heap.size w wr)) (fun _ _ => 0)
    case atStart => exact ⟨rfl, HB1.out⟩
    case round =>
      obtain ⟨rfl, hbe2⟩ := hrel
      go_wp2_with fail
      go_end0
      exact ⟨rfl, hbe2.out⟩
set_option maxRecDepth 100000 in
set_option maxHeartbeats 400000 in
theorem sort0_any (sp : Option Addr) (cap : Nat) (f : Value) (w : World) :
    Calls Tryz.prog 75 #[.slice sp 0 cap, f] w fun e w' => e = .returned (.tuple #[]) ∧ Below w.heap.size w w' := by
  go_enter Tryz.func75, Tryz.ntmps75
  go_wp2_with fail
  refine (stable0_any sp cap f _).mono ?_
  rintro e w1 ⟨rfl, hb1⟩
  have HB1 := Lib.hid hb1; clear hb1
  go_wp2_with fail
  go_end0
  exact ⟨rfl, HB1.out⟩
set_option maxRecDepth 100000 in
set_option maxHeartbeats 400000 in
theorem compact0_any (sp : Option Addr) (cap : Nat) (f : Value) (w : World) :
    Calls Tryz.prog 76 #[.slice sp 0 cap, f] w fun e w' => e = .returned (.slice sp 0 cap) ∧ w = w' := by
  go_enter Tryz.func76, Tryz.ntmps76
  go_wp2_with fail
  go_ret
  exact ⟨rfl, rfl⟩
set_option maxRecDepth 100000 in
set_option maxHeartbeats 1000000 in
theorem unionZ_any (spa : Option Addr) (na ca : Nat) (la : List Bl) (spb : Option Addr) (nb cb : Nat) (lb : List Bl) (w : World) (ha : BlsIn w w.heap.size spa na ca la) (hb : BlsIn w w.heap.size spb nb cb lb) (hna : spa = none → ca = 0) (hnb : spb = none → cb = 0) (h1 : na + nb = 0) :
    Calls Tryz.prog 48 #[.slice spa na ca, .slice spb nb cb] w fun e w' => ∃ sp cap, e = .returned (.slice sp 0 cap) ∧ OwnB w' w.heap.size (.slice sp 0 cap) [] ∧ Below w.heap.size w w' := by
  have HA := Lib.hid ha; have HBb := Lib.hid hb; have HNA := Lib.hid hna; have HNB := Lib.hid hnb
  have HLEN := Lib.hid (show (la ++ lb).length = na + nb by rw [List.length_append, ha.len, hb.len])
  clear ha hb hna hnb
  have hcc : ∀ w1, Below w.heap.size w w1 → ∀ b, w1.heap[b]? = some (.cells #[.slice spa na ca, .slice spb nb cb] 24 (0, 0)) → w.heap.size ≤ w1.heap.size →
      Calls Tryz.prog 74 #[.slice (some ⟨b, 0, none⟩) 2 2] w1 fun e w' => ∃ sp cap, e = .returned (.slice sp (na + nb) cap) ∧ OwnB w' w1.heap.size (.slice sp (na + nb) cap) (la ++ lb) ∧ Below w1.heap.size w1 w' := by
    intro w1 hb b hg hs
    have hbl := (Array.getElem?_eq_some_iff.1 hg).1
    have hp : LbsIn w1 w1.heap.size (some ⟨b, 0, none⟩) 2 [⟨spa, na, ca, la⟩, ⟨spb, nb, cb, lb⟩] := by
      refine ⟨rfl, fun _ => ⟨b, 0, rfl, hbl, fun j hj => ?_⟩, fun q hq => ?_⟩
      · rw [Nat.zero_add, cell_of_row w1 b j _ _ _ hg]
        have : j = 0 ∨ j = 1 := by simp at hj; omega
        rcases this with rfl | rfl <;> rfl
      · simp at hq
        rcases hq with rfl | rfl
        · exact HA.out.up hb (Nat.le_refl _)
        · exact HBb.out.up hb (Nat.le_refl _)
    have hfl : ([⟨spa, na, ca, la⟩, ⟨spb, nb, cb, lb⟩] : List Lb).map (·.l) = [la, lb] := rfl
    have hfe : ([la, lb] : List (List Bl)).flatten = la ++ lb := by simp
    refine (concatB_any (some ⟨b, 0, none⟩) 2 2 _ w1 hp ?_ (by rw [hfl, hfe, HLEN.out]; omega) (by omega)).mono ?_
    · intro q hq
      simp at hq
      rcases hq with rfl | rfl
      · exact HNA.out
      · exact HNB.out
    · rintro e w' ⟨sp, n, cap, rfl, hn, ho, hb2⟩
      rw [hfl, hfe] at hn ho
      rw [HLEN.out] at hn
      subst hn
      exact ⟨sp, cap, rfl, ho, hb2⟩
  have HCC := Lib.hid hcc; clear hcc
  have HRB := Lib.hid (fun w : World => (show (Instr.buildSlice 137 2 #[(0, .slice spa na ca), (1, .slice spb nb cb)]).run Tryz.prog w = .ok (.slice (some ⟨w.heap.size, 0, none⟩) 2 2) (w.alloc (.cells #[.slice spa na ca, .slice spb nb cb] 24)) by kernel_rfl))
  go_enter Tryz.func48, Tryz.ntmps48
  go_wp2_with (refine wpList_slice_eqG rfl 137 2 [(0, .tmp 6), (1, .tmp 7)] rfl [(0, .slice spa na ca), (1, .slice spb nb cb)] rfl _ _ (HRB.out _) ?_; generalize hw0 : World.alloc w _ = w0; have hg0 := (by rw [← hw0]; exact heap_alloc_new w _ : w0.heap[w.heap.size]? = some (.cells #[.slice spa na ca, .slice spb nb cb] 24 (0, 0))); have hb0 := (by rw [← hw0]; exact (Below.refl _ _).alloc (Nat.le_refl _) _ : Below w.heap.size w w0); have HG0 := Lib.hid hg0; have HB0 := Lib.hid hb0; clear hw0 hg0 hb0)
  refine (HCC.out _ HB0.out _ HG0.out HB0.out.size).mono ?_
  rintro e w1 ⟨sp, cap, rfl, ho, hb1⟩
  have hz : la ++ lb = [] := List.eq_nil_of_length_eq_zero (by rw [HLEN.out]; exact h1)
  rw [hz] at ho
  rw [h1] at ho
  have HO := Lib.hid (ho.base HB0.out.size); have HB1 := Lib.hid (HB0.out.trans (hb1.mono HB0.out.size)); clear ho hb1
  rw [h1]
  have HS := Lib.hid (fun f => sort0_any sp cap f w1)
  go_wp2_with fail
  refine (HS.out _).mono ?_
  rintro e w2 ⟨rfl, hb2⟩
  have HO2 := Lib.hid (HO.out.below hb2)
  have HB2 := Lib.hid (HB1.out.trans (hb2.mono HB1.out.size))
  clear hb2
  go_wp2_with fail
  refine (compact0_any sp cap _ w2).mono ?_
  rintro e w3 ⟨rfl, rfl⟩
  go_wp2_with fail
  go_ret
  exact ⟨sp, cap, rfl, HO2.out, HB2.out⟩
end Go.Proofs.YtdjknefbaclleaaGreatDoor

namespace Go.Proofs.YtdjknefbaclleaaGreatDoor
open Go.RowKit Go.Sort

theorem ints_uOf {b : List Int} (h : Byt b) : (uOf b).map (fun u => (u.toNat : Int)) = b := by
  apply List.ext_getElem
  · simp [uOf]
  · intro i h1 h2
    have h3 : i < (uOf b).length := by simpa using h1
    rw [List.getElem_map, uOf_at h h3, List.getD_eq_getElem?_getD, List.getElem?_eq_getElem h2]; rfl
theorem uOf_inj {a b : List Int} (ha : Byt a) (hb : Byt b) : ((⟨(uOf a).toArray⟩ : ByteArray) = ⟨(uOf b).toArray⟩) ↔ a = b := by
  constructor
  · intro h
    have h1 : (uOf a).toArray = (uOf b).toArray := congrArg ByteArray.data h
    have h2 : uOf a = uOf b := by simpa using h1
    rw [← ints_uOf ha, ← ints_uOf hb, h2]
  · rintro rfl; rfl
/-- does the list hold another blob with the digest of y -/
def conP (la : List Bl) (y : Bl) : Bool := match la.find? (fun x => decide (x.d = y.d)) with
  | some x => !decide (x.b = y.b)
  | none => false
theorem conP_none {la : List Bl} {y : Bl} (h : ∀ x ∈ la, x.d ≠ y.d) : conP la y = false := by
  unfold conP
  rw [List.find?_eq_none.2 (fun x hx => by simpa using h x hx)]
theorem conP_some {la : List Bl} {y x : Bl} {k : Nat} (hk : la[k]? = some x) (hd : x.d = y.d) (hb : ∀ z ∈ la.take k, z.d ≠ y.d) : conP la y = !decide (x.b = y.b) := by
  unfold conP
  have hlt := (List.getElem?_eq_some_iff.1 hk).1
  have e : la = la.take k ++ x :: la.drop (k + 1) := by
    have h1 : la.drop k = x :: la.drop (k + 1) := by
      rw [List.drop_eq_getElem_cons hlt, (List.getElem?_eq_some_iff.1 hk).2]
    rw [← h1, List.take_append_drop]
  have hf : la.find? (fun z => decide (z.d = y.d)) = some x := by
    rw [e, List.find?_append, List.find?_eq_none.2 (fun z hz => by simpa using hb z hz), Option.none_or, List.find?_cons_of_pos (by simpa using hd)]
  rw [hf]
end Go.Proofs.YtdjknefbaclleaaGreatDoor

namespace Go.Proofs.YtdjknefbaclleaaGreatDoor
open Go.RowKit Go.Sort

end Go.Proofs.YtdjknefbaclleaaGreatDoor

namespace Go.Proofs.YtdjknefbaclleaaGreatDoor
open Go.RowKit Go.Sort

/-- what two stores hold together -/
structure MrgL (la lb T : List Bl) : Prop where
  asc : AscB T
  mem : ∀ z, z ∈ T ↔ z ∈ la ∨ (z ∈ lb ∧ ∀ y ∈ la, y.d ≠ z.d)
theorem MrgL.det {la lb T T' : List Bl} (h : MrgL la lb T) (h' : MrgL la lb T') : T = T' := srt_ext h.asc h'.asc (fun z => (h.mem z).trans (h'.mem z).symm)
set_option maxRecDepth 100000 in
theorem unionM_any (spa : Option Addr) (na ca : Nat) (la : List Bl) (spb : Option Addr) (nb cb : Nat) (lb : List Bl) (w : World) (ha : BlsIn w w.heap.size spa na ca la) (hb : BlsIn w w.heap.size spb nb cb lb) (hna : spa = none → ca = 0) (hnb : spb = none → cb = 0) (h2 : na + nb ≤ 1000000) (sa : AscB la) (sb : AscB lb) :
    Calls Tryz.prog 48 #[.slice spa na ca, .slice spb nb cb] w fun e w' => ∃ sp m cap T, e = .returned (.slice sp m cap) ∧ T.length = m ∧ OwnB w' w.heap.size (.slice sp m cap) T ∧ MrgL la lb T ∧ Below w.heap.size w w' := by
  by_cases h0 : na + nb = 0
  · have ea : la = [] := List.eq_nil_of_length_eq_zero (by rw [ha.len]; omega)
    have eb : lb = [] := List.eq_nil_of_length_eq_zero (by rw [hb.len]; omega)
    refine (unionZ_any spa na ca la spb nb cb lb w ha hb hna hnb h0).mono ?_
    rintro e w' ⟨sp, cap, rfl, ho, hbe⟩
    exact ⟨sp, 0, cap, [], rfl, rfl, ho, ⟨List.Pairwise.nil, fun z => by rw [ea, eb]; simp⟩, hbe⟩
  · have hok : ∀ x ∈ la ++ lb, OkB x := fun x hx => by
      rcases List.mem_append.1 hx with h | h
      · exact ha.ok x h
      · exact hb.ok x h
    refine (unionB_any spa na ca la spb nb cb lb w ha hb hna hnb (by omega) h2 hok).mono ?_
    rintro e w' ⟨g, m, cap, M, rfl, hs, hm, ho, hbe⟩
    obtain ⟨tg, ht⟩ := hs.tagged
    exact ⟨_, m, cap, _, rfl, hm.symm, ho, ⟨(cpt_asc ht _ (Nat.le_refl _)).1, fun z => (cpt_first ht).trans (first_mem sa sb z)⟩, hbe⟩
/-- what Merge answers -/
def MrgR (la lb : List Bl) (base : Nat) (e : Ending) (w' : World) : Prop :=
  ((vldP (la.map bp) && vldP (lb.map bp)) = false ∧ e = .returned (.tuple #[.slice none 0 0, .int .i64 1])) ∨
  ((vldP (la.map bp) && vldP (lb.map bp)) = true ∧ ((lb.any (conP la) = true ∧ e = .returned (.tuple #[.slice none 0 0, .int .i64 9])) ∨
    (lb.any (conP la) = false ∧ ∃ T, MrgL la lb T ∧ ((256 < T.length ∧ e = .returned (.tuple #[.slice none 0 0, .int .i64 3])) ∨
      (T.length ≤ 256 ∧ ∃ sp' cap' L m, e = .returned (.tuple #[.slice sp' m cap', .int .i64 0]) ∧ m = T.length ∧ L.length = m ∧ L.map bp = T.map bp ∧ Sto w' base sp' m cap' L)))))
theorem vld_small {l : List Bl} {w : World} {B : Nat} {sp : Option Addr} {n cap : Nat} (hv : vldP (l.map bp) = true) (hl : BlsIn w B sp n cap l) : ∀ y ∈ l, y.n ≤ 262144 := fun y h => by
  unfold vldP at hv
  rw [Bool.and_eq_true] at hv
  have h3 := List.all_eq_true.1 hv.2 (bp y) (List.mem_map_of_mem h)
  have h4 : y.b.length ≤ 262144 := of_decide_eq_true h3
  have h5 := (hl.dat y h).src.len
  omega
end Go.Proofs.YtdjknefbaclleaaGreatDoor

namespace Go.Proofs.YtdjknefbaclleaaGreatDoor
open Go.RowKit Go.Sort

theorem take_snoc {l : List Bl} {k : Nat} {x : Bl} (h : l[k]? = some x) : l.take (k + 1) = l.take k ++ [x] := by rw [List.take_add_one, h]; rfl
theorem MrgL.zero {la : List Bl} (h : AscB la) (lb : List Bl) : MrgL la (lb.take 0) la := ⟨h, fun z => by simp⟩
theorem MrgL.all {la lb T : List Bl} (h : MrgL la (lb.take lb.length) T) : MrgL la lb T := by rw [List.take_length] at h; exact h
theorem MrgL.skip {la lb T : List Bl} {k : Nat} {x : Bl} (h : MrgL la (lb.take k) T) (hx : lb[k]? = some x) (hy : ∃ y ∈ la, y.d = x.d) : MrgL la (lb.take (k + 1)) T :=
  ⟨h.asc, fun z => by
    rw [h.mem z, take_snoc hx, List.mem_append, List.mem_singleton]
    constructor
    · rintro (h1 | ⟨h1, h2⟩)
      · exact .inl h1
      · exact .inr ⟨.inl h1, h2⟩
    · rintro (h1 | ⟨h1 | h1, h2⟩)
      · exact .inl h1
      · exact .inr ⟨h1, h2⟩
      · obtain ⟨y, hy1, hy2⟩ := hy
        rw [h1] at h2
        exact absurd hy2 (h2 y hy1)⟩
theorem MrgL.fresh {la lb T : List Bl} {k : Nat} {x : Bl} (h : MrgL la (lb.take k) T) (sb : AscB lb) (hx : lb[k]? = some x) (hno : ∀ y ∈ la, y.d ≠ x.d) : ∀ y ∈ T, y.d ≠ x.d := fun y hy => by
  rcases (h.mem y).1 hy with h1 | ⟨h1, _⟩
  · exact hno y h1
  · obtain ⟨j, hj, e⟩ := List.getElem_of_mem h1
    have hjk : j < k := by rw [List.length_take] at hj; omega
    have hy2 : lb[j]? = some y := by
      have h3 : (lb.take k)[j]? = some y := by rw [List.getElem?_eq_getElem hj, e]
      rwa [List.getElem?_take, if_pos hjk] at h3
    exact dls_ne (sb.lt hjk hy2 hx)
theorem MrgL.ins {la lb T : List Bl} {k j : Nat} {x : Bl} (h : MrgL la (lb.take k) T) (sb : AscB lb) (hx : lb[k]? = some x) (hno : ∀ y ∈ la, y.d ≠ x.d) (h1 : ∀ y ∈ T.take j, dls y.d x.d = true) (h2 : ∀ y, T[j]? = some y → dls y.d x.d = false) : MrgL la (lb.take (k + 1)) (T.take j ++ x :: T.drop j) :=
  ⟨asc_ins h.asc (h.fresh sb hx hno) h1 h2, fun z => by
    have hz : z ∈ T ↔ z ∈ T.take j ∨ z ∈ T.drop j := by
      conv => lhs; rw [← List.take_append_drop j T]
      exact List.mem_append
    rw [List.mem_append, List.mem_cons, take_snoc hx, List.mem_append, List.mem_singleton]
    constructor
    · rintro (h3 | h3 | h3)
      · rcases (h.mem z).1 (hz.2 (.inl h3)) with h4 | ⟨h4, h5⟩
        · exact .inl h4
        · exact .inr ⟨.inl h4, h5⟩
      · exact .inr ⟨.inr h3, by rw [h3]; exact hno⟩
      · rcases (h.mem z).1 (hz.2 (.inr h3)) with h4 | ⟨h4, h5⟩
        · exact .inl h4
        · exact .inr ⟨.inl h4, h5⟩
    · rintro (h3 | ⟨h3 | h3, h4⟩)
      · rcases hz.1 ((h.mem z).2 (.inl h3)) with h5 | h5
        · exact .inl h5
        · exact .inr (.inr h5)
      · rcases hz.1 ((h.mem z).2 (.inr ⟨h3, h4⟩)) with h5 | h5
        · exact .inl h5
        · exact .inr (.inr h5)
      · exact .inr (.inl h3)⟩
end Go.Proofs.YtdjknefbaclleaaGreatDoor

namespace Go.Proofs.YtdjknefbaclleaaGreatDoor
open Go.RowKit Go.Sort

theorem srtD_ext : ∀ {a b : List Pr}, srtD a → srtD b → (∀ z, z ∈ a ↔ z ∈ b) → a = b
  | [], [], _, _, _ => rfl
  | [], y :: m, _, _, h => absurd ((h y).2 (by simp)) (by simp)
  | x :: l, [], _, _, h => absurd ((h x).1 (by simp)) (by simp)
  | x :: l, y :: m, hl, hm, h => by
    obtain ⟨hl1, hl2⟩ := List.pairwise_cons.1 hl
    obtain ⟨hm1, hm2⟩ := List.pairwise_cons.1 hm
    have hxy : x = y := by
      rcases List.mem_cons.1 ((h x).1 (by simp)) with e | hx
      · exact e
      rcases List.mem_cons.1 ((h y).2 (by simp)) with e | hy
      · exact e.symm
      have h1 := hm1 x hx; have h2 := hl1 y hy
      rw [dls_asymm h1] at h2; cases h2
    subst hxy
    rw [srtD_ext hl2 hm2 (fun c => by
      constructor
      · intro hc
        rcases List.mem_cons.1 ((h c).1 (by simp [hc])) with e | hc'
        · subst e; have := hl1 c hc; rw [dls_irrefl] at this; cases this
        · exact hc'
      · intro hc
        rcases List.mem_cons.1 ((h c).2 (by simp [hc])) with e | hc'
        · subst e; have := hm1 c hc; rw [dls_irrefl] at this; cases this
        · exact hc')]
theorem AscB.one {l : List Bl} (h : AscB l) {x y : Bl} (hx : x ∈ l) (hy : y ∈ l) (he : x.d = y.d) : x = y := by
  induction l with
  | nil => cases hx
  | cons z l ih =>
    obtain ⟨h1, h2⟩ := List.pairwise_cons.1 h
    rcases List.mem_cons.1 hx with e1 | e1 <;> rcases List.mem_cons.1 hy with e2 | e2
    · rw [e1, e2]
    · have := h1 y e2; rw [← e1, he, dls_irrefl] at this; cases this
    · have := h1 x e1; rw [← e2, he, dls_irrefl] at this; cases this
    · exact ih h2 e1 e2
theorem con_no {la : List Bl} {z y : Bl} (h : conP la z = false) (hy : y ∈ la) (he : y.d = z.d) : ∃ x ∈ la, bp x = bp z := by
  unfold conP at h
  cases hf : la.find? (fun x => decide (x.d = z.d)) with
  | none => have := List.find?_eq_none.1 hf y hy; simp [he] at this
  | some x =>
    rw [hf] at h
    have h1 := List.find?_some hf
    have h2 := List.mem_of_find?_eq_some hf
    exact ⟨x, h2, Prod.ext (of_decide_eq_true h1) (show x.b = z.b by simpa using h)⟩
/-- no contradiction with a list that holds it -/
theorem con_in {L : List Bl} {y : Bl} (hL : AscB L) (h : bp y ∈ L.map bp) : conP L y = false := by
  unfold conP
  cases hf : L.find? (fun x => decide (x.d = y.d)) with
  | none => rfl
  | some x =>
    have h0 := List.find?_some hf
    have h1 : x.d = y.d := of_decide_eq_true h0
    have h2 := List.mem_of_find?_eq_some hf
    obtain ⟨z, hz, hzy⟩ := List.mem_map.1 h
    have e1 : z.d = y.d := congrArg Prod.fst hzy
    have e2 : z.b = y.b := congrArg Prod.snd hzy
    have : x = z := hL.one h2 hz (by rw [h1, e1])
    subst this
    simp [e2]
theorem any_no {lb : List Bl} {p : Bl → Bool} : lb.any p = false ↔ ∀ y ∈ lb, p y = false := by
  rw [List.any_eq_false]; constructor
  · intro h y hy; simpa using h y hy
  · intro h y hy; simpa using h y hy
theorem con_swap {la lb : List Bl} (sa : AscB la) (hc : lb.any (conP la) = false) : la.any (conP lb) = false := by
  rw [any_no] at *
  intro x hx
  unfold conP
  cases hf : lb.find? (fun y => decide (y.d = x.d)) with
  | none => rfl
  | some y =>
    have h0 := List.find?_some hf
    have h1 : y.d = x.d := of_decide_eq_true h0
    have h2 := List.mem_of_find?_eq_some hf
    obtain ⟨z, hz, hzy⟩ := con_no (hc y h2) hx h1.symm
    have e1 : z.d = y.d := congrArg Prod.fst hzy
    have e2 : z.b = y.b := congrArg Prod.snd hzy
    have : x = z := sa.one hx hz (by rw [e1, h1])
    subst this
    simp [e2]
theorem mrg_bp {la lb T : List Bl} (h : MrgL la lb T) (hc : lb.any (conP la) = false) (p : Pr) : p ∈ T.map bp ↔ p ∈ la.map bp ∨ p ∈ lb.map bp := by
  rw [any_no] at hc
  constructor
  · intro hp
    obtain ⟨z, hz, rfl⟩ := List.mem_map.1 hp
    rcases (h.mem z).1 hz with h1 | ⟨h1, _⟩
    · exact .inl (List.mem_map_of_mem h1)
    · exact .inr (List.mem_map_of_mem h1)
  · rintro (hp | hp)
    · obtain ⟨z, hz, rfl⟩ := List.mem_map.1 hp
      exact List.mem_map_of_mem ((h.mem z).2 (.inl hz))
    · obtain ⟨z, hz, rfl⟩ := List.mem_map.1 hp
      by_cases hno : ∀ y ∈ la, y.d ≠ z.d
      · exact List.mem_map_of_mem ((h.mem z).2 (.inr ⟨hz, hno⟩))
      · obtain ⟨y, hy⟩ := Classical.not_forall.1 hno
        obtain ⟨hy1, hy2⟩ := Classical.not_imp.1 hy
        obtain ⟨x, hx, hxz⟩ := con_no (hc z hz) hy1 (Classical.not_not.1 hy2)
        rw [← hxz]
        exact List.mem_map_of_mem ((h.mem x).2 (.inl hx))
/-- two merged stores of the same contents are the same -/
theorem mrg_same {la lb T la' lb' T' : List Bl} (h : MrgL la lb T) (hc : lb.any (conP la) = false) (h' : MrgL la' lb' T') (hc' : lb'.any (conP la') = false) (he : ∀ p, p ∈ la.map bp ∨ p ∈ lb.map bp ↔ p ∈ la'.map bp ∨ p ∈ lb'.map bp) : T.map bp = T'.map bp :=
  srtD_ext h.asc.srtD h'.asc.srtD (fun p => by rw [mrg_bp h hc p, mrg_bp h' hc' p]; exact he p)
theorem len_bp {l m : List Bl} (h : l.map bp = m.map bp) : l.length = m.length := by have := congrArg List.length h; simpa using this
/-- what Merge has made answers Get -/
theorem mrg_has {la lb T : List Bl} (h : MrgL la lb T) (hc : lb.any (conP la) = false) {L : List Bl} (hL : L.map bp = T.map bp) {d : List Int} (hd : (∃ y ∈ la, y.d = d) ∨ ∃ y ∈ lb, y.d = d) : ∃ z ∈ L, z.d = d := by
  have : ∃ y : Bl, bp y ∈ L.map bp ∧ y.d = d := by
    rcases hd with ⟨y, hy, rfl⟩ | ⟨y, hy, rfl⟩
    · exact ⟨y, by rw [hL, mrg_bp h hc]; exact .inl (List.mem_map_of_mem hy), rfl⟩
    · exact ⟨y, by rw [hL, mrg_bp h hc]; exact .inr (List.mem_map_of_mem hy), rfl⟩
  obtain ⟨y, hy, rfl⟩ := this
  obtain ⟨z, hz, hzy⟩ := List.mem_map.1 hy
  exact ⟨z, hz, congrArg Prod.fst hzy⟩
end Go.Proofs.YtdjknefbaclleaaGreatDoor
