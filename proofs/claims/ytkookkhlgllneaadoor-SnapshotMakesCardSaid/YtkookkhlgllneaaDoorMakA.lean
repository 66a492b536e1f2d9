/-
  The walks of the sort of entries by their paths, of slices.SortedFunc and of snapshot.Make (conditions: digests of 32 bytes, at most 1000 entries).
-/
import Derived.Test.YtkookkhlgllneaaDoorMakS
namespace Go.Proofs.YtkookkhlgllneaaDoor
open Go.RowKit

/-- what Make leaves, read as entries -/
def ResR (w : World) (r : Except Int (List En)) (e : Ending) (w' : World) : Prop := ∃ sp n cap, e = .returned (.tuple #[.slice sp n cap, .int .i64 (vE r).2]) ∧ EnsIn w' w'.heap.size sp n cap (vE r).1 ∧ Below w.heap.size w w'
theorem resR_error {w w' : World} {r : Except Int (List En)} {k : Int} {e : Ending} (h : r = .error k) (he : e = .returned (.tuple #[.slice none 0 0, .int .i64 k])) (hb : Below w.heap.size w w') : ResR w r e w' := by
  subst h
  exact ⟨none, 0, 0, he, ⟨rfl, fun x hx => (by cases hx), fun h => by omega⟩, hb⟩
theorem resR_ok {w w' : World} {r : Except Int (List En)} {l : List En} {e : Ending} {sp : Option Addr} {n cap : Nat} (h : r = .ok l) (he : e = .returned (.tuple #[.slice sp n cap, .int .i64 0])) (ho : EnsIn w' w'.heap.size sp n cap l) (hb : Below w.heap.size w w') : ResR w r e w' := by
  subst h
  exact ⟨sp, n, cap, he, ho, hb⟩
theorem own_block {w : World} {base n cap : Nat} {sp : Option Addr} {l : List En} (h : OwnE w base (.slice sp n cap) l) (hn : l.length = n) (h0 : 0 < n) : ∃ g cur, sp = some ⟨g, 0, none⟩ ∧ base ≤ g ∧ g < w.heap.size ∧ n ≤ cap ∧ w.heap[g]? = some (.cells cur 70 (0, 0)) := by
  obtain ⟨_, ⟨e, e0⟩ | ⟨g, cap', cur, e, hb, hg, hle, _⟩⟩ := h.1
  · omega
  · injection e with e1 e2 e3
    exact ⟨g, cur, e1, hb, (Array.getElem?_eq_some_iff.1 hg).1, by omega, hg⟩
theorem sortE_any (base n cap : Nat) (sp : Option Addr) (l : List En) (w : World) (h : OwnE w base (.slice sp n cap) l) (hn : l.length = n) (hbd : n ≤ 1000000) :
    Calls Tryd.prog 101 #[.slice sp n cap, .func (.func 52) #[] #[]] w fun e w' => e = .returned (.tuple #[]) ∧ ∃ m, Asc m ∧ m.Perm l ∧ EnsIn w' w'.heap.size sp n cap m ∧ Below base w w' := by
  by_cases h0 : 0 < n
  · obtain ⟨g, cur, rfl, hb, hgw, hc, hg⟩ := own_block h hn h0
    have hens := h.ens hn
    have hd : (toV l h.2).toArray.size = n := by simp [toV_length, hn]
    have hul : unV (toV l h.2).toArray.toList = l := unV_toV l h.2
    have hH : Sort.HoldsK encE 33 w g 0 (toV l h.2).toArray := holdsV (n := n) (cap := cap) (by rw [hul]; exact hens) hg
    have eg : ∀ args w, (callFunc 52 args).run Tryd.prog w = .ok (.enter 52 args) w := enters_of Tryd.func52 (by kernel_rfl) rfl
    have hcon := AnyQ.slices_SortFunc Tryd.sortEn 33 Tryd.isAgg70 Tryd.sizeOf70 encE (fun x => enL_length x.2) (fun x v hv => enL_one x.1 v hv) cmpP cmpP_swo 52 #[] g 0 cap (toV l h.2).toArray w eg (fun m os dk hdk x y => byPath_any x.1 y.1 _) hH hgw (by omega)
    change Calls Tryd.prog 101 _ _ _ at hcon
    rw [hd] at hcon
    refine hcon.mono ?_
    rintro e w' ⟨he, d', m, os, hp, hs, rfl⟩
    have hds : d'.size = n := by rw [hp.1, hd]
    have hs' : Sort.SortedIn (ltOf cmpP) 0 d'.size d' := by rw [hds]; exact hs
    have hp' : Sort.PermIn 0 (toV l h.2).toArray.size (toV l h.2).toArray d' := by rw [hd]; exact hp
    have hperm := permV hp'
    rw [hul] at hperm
    refine ⟨he, unV d'.toList, ascV hs', hperm, ?_, below_sortV hb hgw⟩
    have hsz := size_sortWorldK_c encE 33 w g 0 m d' os
    exact ensV (holdsK_sortWorldK_c encE 33 w g 0 (toV l h.2).toArray d' m os hH hgw (by rw [hds, hd])) hds hc (by omega)
  · obtain rfl : n = 0 := by omega
    have hl : l = [] := List.eq_nil_of_length_eq_zero hn
    subst hl
    have hcon := AnyF.slices_SortFunc_none Tryd.sortEn sp cap (.func (.func 52) #[] #[]) w
    change Calls Tryd.prog 101 _ _ _ at hcon
    refine hcon.mono ?_
    rintro e w' ⟨he, rfl⟩
    exact ⟨he, [], List.Pairwise.nil, List.Perm.refl _, ⟨rfl, fun x hx => (by cases hx), fun h => absurd h (by omega)⟩, Below.refl _ _⟩
set_option maxRecDepth 100000 in
set_option maxHeartbeats 1000000 in
theorem sortedFunc_any (ba : Nat) (sp : Option Addr) (na ca : Nat) (a : List En) (B : Nat) (w : World) (hna : na ≤ 400000) (hB : B ≤ w.heap.size) (hba : ba < w.heap.size) (hc : VaIn w B ba sp na ca a) :
    Calls Tryd.prog 50 #[.func (.func 102) #[] #[.pointer (some ⟨ba, 0, none⟩)], .func (.func 52) #[] #[]] w fun e w' => ∃ sp' cap' m, e = .returned (.slice sp' na cap') ∧ Asc m ∧ m.Perm a ∧ EnsIn w' w'.heap.size sp' na cap' m ∧ Below w.heap.size w w' := by
  have HC := Lib.hid hc; clear hc
  have HCO : Hid (Calls Tryd.prog 100 #[.func (.func 102) #[] #[.pointer (some ⟨ba, 0, none⟩)]] w fun e w' => ∃ sp' cap', e = .returned (.slice sp' na cap') ∧ OwnE w' w.heap.size (.slice sp' na cap') a ∧ Below w.heap.size w w') := by
    show Calls _ _ _ _ _
    have HA := Lib.hid (appendSeq_any ba sp na ca a B w hna hB hba HC.out)
    go_enter Tryd.func100, Tryd.ntmps100
    go_wp2_with fail
    refine HA.out.mono ?_
    rintro e w1 ⟨sp1, cp1, rfl, ho1, hb1⟩
    have HO1 := Lib.hid ho1; have HB1 := Lib.hid hb1; clear ho1 hb1
    go_wp2_with fail
    go_ret
    exact ⟨sp1, cp1, rfl, HO1.out, HB1.out⟩
  have HLN := Lib.hid HC.out.la.len
  go_enter Tryd.func50, Tryd.ntmps50
  go_wp2_with fail
  refine HCO.out.mono ?_
  rintro e w1 ⟨sp1, cp1, rfl, ho1, hb1⟩
  have HB1 := Lib.hid hb1
  have HS := Lib.hid (sortE_any w.heap.size na cp1 sp1 a w1 ho1 HLN.out (by omega))
  clear ho1 hb1
  go_wp2_with fail
  refine HS.out.mono ?_
  rintro e w2 ⟨rfl, m, hm1, hm2, hm3, hb2⟩
  have HM1 := Lib.hid hm1; have HM2 := Lib.hid hm2; have HM3 := Lib.hid hm3
  have HB2 := Lib.hid (HB1.out.trans hb2); clear hm1 hm2 hm3 hb2
  go_wp2_with fail
  go_ret
  exact ⟨sp1, cp1, m, rfl, HM1.out, HM2.out, HM3.out, HB2.out⟩
set_option maxHeartbeats 400000 in
theorem valuesE_any (sp : Option Addr) (na ca : Nat) (w : World) :
    Calls Tryd.prog 51 #[.slice sp na ca] w fun e w' => e = .returned (.func (.func 102) #[] #[.pointer (some ⟨w.heap.size, 0, none⟩)]) ∧
      w' = w.alloc (.cells #[.slice sp na ca] 22) := by
  go_enter Tryd.func51, Tryd.ntmps51
  go_wp2
  go_ret
  exact ⟨rfl, rfl⟩
set_option maxRecDepth 100000 in
set_option maxHeartbeats 1000000 in
theorem Make_any (sp : Option Addr) (n cap : Nat) (l : List En) (w : World) (hl : EnsIn w w.heap.size sp n cap l) (hn : n ≤ 1000) :
    Calls Tryd.prog 12 #[.slice sp n cap] w (ResR w (makeL l)) := by
  have HL := Lib.hid hl; clear hl
  have HLN := Lib.hid HL.out.len
  by_cases h64 : n ≤ 64
  case neg =>
    have hd : decide ((n : Int) > 64) = true := by simp; omega
    have HM := Lib.hid (makeL_long (l := l) (by rw [HLN.out]; exact h64))
    clear h64
    go_enter Tryd.func12, Tryd.ntmps12
    go_wp2_with fail
    go_ret2
    exact resR_error HM.out rfl (Below.refl _ _)
  have hd : decide ((n : Int) > 64) = false := by simp; omega
  have hce := containsE_any sp n cap l w HL.out (by omega)
  have h64' : l.length ≤ 64 := by rw [HLN.out]; exact h64
  cases hb : l.any badE
  case true =>
    rw [hb] at hce
    have HCE := Lib.hid hce
    have HM := Lib.hid (makeL_bad h64' hb)
    clear hce h64 h64' hb
    go_enter Tryd.func12, Tryd.ntmps12
    go_wp2_with fail
    refine HCE.out.mono ?_
    rintro e w1 ⟨rfl, hb1⟩
    have HB1 := Lib.hid hb1; clear hb1
    go_wp2_with fail
    go_ret2
    exact resR_error HM.out rfl HB1.out
  rw [hb] at hce
  have HCE := Lib.hid hce
  have HH := Lib.hid h64'; have HBD := Lib.hid hb
  have HAS := Lib.hid (fun (s1 : Option Addr) (c1 : Nat) (m : List En) w1 (h1 : EnsIn w1 w1.heap.size s1 n c1 m) => ascendE_any s1 n c1 m w1 h1 (by omega))
  have HSF := Lib.hid (fun (w1 : World) (ba : Nat) (h1 : w.heap.size ≤ w1.heap.size) (h2 : ba < w1.heap.size) (h3 : VaIn w1 w.heap.size ba sp n cap l) => sortedFunc_any ba sp n cap l w.heap.size w1 (by omega) h1 h2 h3)
  clear hce h64' hb
  go_enter Tryd.func12, Tryd.ntmps12
  go_wp2_with fail
  refine HCE.out.mono ?_
  rintro e w1 ⟨rfl, hb1⟩
  have HB1 := Lib.hid hb1; clear hb1
  go_wp2_with fail
  refine (valuesE_any sp n cap w1).mono ?_
  rintro e w2 ⟨rfl, hw2⟩
  have hs1 := HB1.out.size
  have hb2 : Below w1.heap.size w1 w2 := by rw [hw2]; exact (Below.refl _ _).alloc (Nat.le_refl _) _
  have hc2 : w2.cell? ⟨w1.heap.size, 0, none⟩ = some (.slice sp n cap) := by rw [hw2, cell_of_row _ w1.heap.size 0 _ _ _ (heap_alloc_new w1 _)]; rfl
  have hz2 : w1.heap.size < w2.heap.size := by rw [hw2]; simp
  have hB2 := HB1.out.trans (hb2.mono hs1)
  have HB2 := Lib.hid hB2
  have hv2 : VaIn w2 w.heap.size w1.heap.size sp n cap l := ⟨hc2, HL.out.below hB2 (Nat.le_refl _)⟩
  have HS2 := Lib.hid (HSF.out w2 w1.heap.size (by omega) hz2 hv2)
  clear hw2 hb2 hc2 hz2 hB2 hv2 hs1
  go_wp2_with fail
  refine HS2.out.mono ?_
  rintro e w3 ⟨sp3, cp3, m, rfl, hm1, hm2, hm3, hb3⟩
  have HM1 := Lib.hid hm1; have HM2 := Lib.hid hm2; have HM3 := Lib.hid hm3
  have HB3 := Lib.hid (HB2.out.trans (hb3.mono HB2.out.size))
  have hasc := HAS.out sp3 cp3 m w3 hm3
  rw [asc_asc hm1 hm2] at hasc
  clear hm1 hm2 hm3 hb3
  cases hnd : nodupE l
  case false =>
    rw [hnd] at hasc
    have HX := Lib.hid hasc
    have HM := Lib.hid (makeL_twice HH.out HBD.out hnd)
    clear hasc hnd
    go_wp2_with fail
    refine HX.out.mono ?_
    rintro e w4 ⟨rfl, hb4⟩
    have HB4 := Lib.hid (HB3.out.trans (hb4.mono HB3.out.size)); clear hb4
    go_wp2_with fail
    go_ret2
    exact resR_error HM.out rfl HB4.out
  rw [hnd] at hasc
  have HX := Lib.hid hasc
  have HM := Lib.hid (makeL_good HH.out HBD.out hnd)
  have HE := Lib.hid (asc_ins HM1.out HM2.out hnd)
  clear hasc hnd
  go_wp2_with fail
  refine HX.out.mono ?_
  rintro e w4 ⟨rfl, hb4⟩
  have HE4 := Lib.hid (HM3.out.up hb4 (Nat.le_refl _))
  have HB4 := Lib.hid (HB3.out.trans (hb4.mono HB3.out.size)); clear hb4
  go_wp2_with fail
  go_ret2
  exact resR_ok HM.out rfl (by rw [← HE.out]; exact HE4.out) HB4.out
end Go.Proofs.YtkookkhlgllneaaDoor
