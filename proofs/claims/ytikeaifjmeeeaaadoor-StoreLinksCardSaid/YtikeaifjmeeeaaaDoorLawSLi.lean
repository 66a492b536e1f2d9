/-
  The walk of the statement StoreLinks (conditions: the arguments read as bytes and as lines; the table of constants reads as it is laid).
-/
import Derived.Test.YtikeaifjmeeeaaaDoorGl
import Derived.Test.YtikeaifjmeeeaaaDoorGj
import Derived.Test.YtikeaifjmeeeaaaDoorGc
namespace Go.Proofs.YtikeaifjmeeeaaaDoor
open Go.RowKit

theorem flat_le120 : ∀ (L : List (List ByteArray)), (∀ l ∈ L, l.length ≤ 120) → L.flatten.length ≤ 120 * L.length
  | [], _ => by simp
  | l :: L, h => by
    rw [List.flatten_cons, List.length_append, List.length_cons]
    have h1 := h l (by simp)
    have h2 := flat_le120 L (fun m hm => h m (by simp [hm]))
    omega
theorem dec_bounds (S : ByteArray) : (decC S).2.length ≤ 1000000 ∧ (decC S).2.flatten.length ≤ 1000000 ∧ ∀ s ∈ (decC S).2.flatten, s.size ≤ 9223372036854775807 := by
  unfold decC
  split
  · exact ⟨by simp, by simp, fun s hs => by simp at hs⟩
  · cases hr : rdoc S with
    | none => exact ⟨by simp, by simp, fun s hs => by simp at hs⟩
    | some L =>
      simp only
      split
      · rename_i hc
        unfold chk at hc
        split at hc
        · cases hc
        · have hb := firstBad_all hc
          have hl : ∀ l ∈ L, l.length ≤ 120 ∧ l.any lng = false := fun l hl => by
            have := hb l hl
            unfold chkLine at this
            split at this
            · cases this
            · split at this
              · cases this
              · rename_i h; exact ⟨by omega, by simpa using fun e => h (.inr e)⟩
          have h1 := flat_le120 L (fun l hm => (hl l hm).1)
          show L.length ≤ 1000000 ∧ L.flatten.length ≤ 1000000 ∧ ∀ s ∈ L.flatten, s.size ≤ 9223372036854775807
          refine ⟨by omega, by omega, fun s hs => ?_⟩
          obtain ⟨l, hm, hs⟩ := List.mem_flatten.1 hs
          have h2 := not_lng (hl l hm).2 s hs
          omega
      · exact ⟨by simp, by simp, fun s hs => by simp at hs⟩
theorem bsrc_ownG {w : World} {base : Nat} {sp : Option Addr} {cap : Nat} {l : List UInt8} (h : w.ownsRow base 5 1 (.slice sp l.length cap) l.length (Lib.byteCells l)) : BSrc w w.heap.size sp l.length cap l := by
  obtain ⟨_, ⟨e, h0⟩ | ⟨g, c, cur, e, _, hg, hle, _, hsz, htk⟩⟩ := h
  · exact ⟨rfl, fun hn => by omega⟩
  · injection e with e1 e2 e3
    subst e1; subst e3
    refine ⟨rfl, fun _ => ⟨g, 0, rfl, (Array.getElem?_eq_some_iff.1 hg).1, hle, fun j hj => ?_⟩⟩
    rw [cell_of_row w g (0 + j) cur _ _ hg, Nat.zero_add]
    have h4 : (cur.toList.take (l.length * 1))[j]? = some (.int .u8 (l[j].toNat : Int)) := by rw [htk]; simp [Lib.byteCells, hj]
    rw [List.getElem?_take, if_pos (by omega)] at h4
    simpa using h4
theorem bsrc_memG {w w' : World} {sp : Option Addr} {n cap : Nat} {l : List UInt8} (h : BSrc w w.heap.size sp n cap l) (hb : Below w.heap.size w w') : BSrc w' w'.heap.size sp n cap l :=
  ⟨h.len, fun hn => by
    obtain ⟨bb, off, e, hlt, hc, hcell⟩ := h.cells hn
    exact ⟨bb, off, e, by have := hb.size; omega, hc, fun j hj => (hb.cell (p := ⟨bb, off + j, none⟩) hlt).trans (hcell j hj)⟩⟩
theorem lnkD_le (S : ByteArray) : (lnkD S).length ≤ 1000000 := Nat.le_trans (lnk_le _) (dec_bounds S).2.1
theorem bsrc_nil (w : World) : BSrc w w.heap.size none 0 0 [] := ⟨rfl, fun h => by omega⟩
/-- Links of some bytes, twice, compared -/
def TwoOf (w : World) (v : Value) : Prop := ∀ w1, Below w.heap.size w w1 → (∃ (l : List UInt8), Calls Tryd.prog 26 #[v] w1 (ResD w1 (lnkD ⟨l.toArray⟩)) ∧ ∀ w2, Below w1.heap.size w1 w2 → Calls Tryd.prog 27 #[v] w2 (ResD w2 (lnkD ⟨l.toArray⟩)))
theorem twoOf {w : World} {sp : Option Addr} {n cap : Nat} {l : List UInt8} (h : BSrc w w.heap.size sp n cap l) : TwoOf w (.slice sp n cap) := fun w1 hb => ⟨l, by
  have hd := dec_bounds ⟨l.toArray⟩
  have h1 := bsrc_memG h hb
  exact ⟨links_any sp n cap l w1 h1 hd.1 hd.2.1 hd.2.2, fun w2 hb2 => refLinks_any sp n cap l w2 (bsrc_memG h1 hb2) hd.1 hd.2.1⟩⟩
set_option maxRecDepth 100000 in
set_option maxHeartbeats 2000000 in
theorem storeLinks_any (sp : Option Addr) (n cap : Nat) (l : List UInt8) (pa : Option Addr) (np ncap : Nat) (ls : List Ln) (w : World) (hs : BSrc w w.heap.size sp n cap l) (hp : LinesIn w w.heap.size pa np ls) (hmax : np ≤ 9223372036854775807) (hmax2 : ∀ q ∈ ls, q.n ≤ 9223372036854775807) (hk : KayIn w) (hk0 : 0 < w.heap.size) :
    Calls Tryd.prog 6 #[.slice sp n cap, .slice pa np ncap] w fun e w' => e = .returned (.bool true) ∧ Below w.heap.size w w' := by
  have HTB := Lib.hid (twoOf hs); have HK := Lib.hid hk
  have HE := Lib.hid (refEncode_any pa np ncap ls w hp hmax hmax2)
  clear hs hp hmax hmax2 hk
  by_cases h1 : 100000 < n
  · have hd : decide ((n : Int) > 100000) = true := by simp; omega
    clear h1
    go_enter Tryd.func6, Tryd.ntmps6
    go_wp2_with fail
    go_ret
    exact ⟨rfl, Below.refl _ _⟩
  have hd : decide ((n : Int) > 100000) = false := by simp; omega
  clear h1
  by_cases h2 : 100 < np
  · have hd2 : decide ((np : Int) > 100) = true := by simp; omega
    clear h2
    go_enter Tryd.func6, Tryd.ntmps6
    go_wp2_with fail
    go_ret
    exact ⟨rfl, Below.refl _ _⟩
  have hd2 : decide ((np : Int) > 100) = false := by simp; omega
  clear h2
  obtain ⟨k, hkk⟩ : ∃ k, (enc (wordsOf ls)).1 = k := ⟨_, rfl⟩
  obtain ⟨X, hX⟩ : ∃ X, (enc (wordsOf ls)).2 = X := ⟨_, rfl⟩
  by_cases h0 : k = 0
  · subst h0
    go_enter Tryd.func6, Tryd.ntmps6
    go_wp2_with fail
    refine HE.out.mono ?_
    rintro e w1 ⟨v, rfl, ho, hb1⟩
    rw [hkk]
    rw [hX] at ho
    obtain ⟨spx, capx, rfl⟩ := own_shape ho.out
    have HB1 := Lib.hid hb1
    have HX := Lib.hid (twoOf (bsrc_ownG ho.out))
    clear ho hb1 HE hkk hX
    go_wp2_with fail
    refine (awake5_any w1 (HK.out.below HB1.out hk0) (by have := HB1.out.size; omega)).mono ?_
    rintro e w2 ⟨rfl, hb2⟩
    have HB2 := Lib.hid (HB1.out.trans (hb2.mono HB1.out.size))
    have HZ2 : Hid (Below w1.heap.size w1 w2) := hb2
    clear hb2
    obtain ⟨l2, hL2, hR2⟩ := HTB.out w2 HB2.out
    have HR2 := Lib.hid hR2; have HL2 := Lib.hid hL2; clear hR2 hL2
    go_wp2_with fail
    refine HL2.out.mono ?_
    rintro e w3 ⟨sp3, m3, cap3, rfl, hm3, ho3, hb3⟩
    have HM3 := Lib.hid hm3; have HO3 := Lib.hid ho3; have HC3 := Lib.hid (HR2.out w3 hb3); have HB3 := Lib.hid (HB2.out.trans (hb3.mono HB2.out.size)); have HZ3 := Lib.hid (HZ2.out.trans (hb3.mono HZ2.out.size))
    clear hm3 ho3 hb3
    go_wp2_with fail
    refine HC3.out.mono ?_
    rintro e w4 ⟨sp4, m4, cap4, rfl, hm4, ho4, hb4⟩
    have HQ4 := Lib.hid (OwnDg.digs (HO3.out.below hb4) HM3.out.symm); have HP4 := Lib.hid (ho4.digs hm4.symm); have HN4 : Hid (m3 ≤ 1000000) := by show _ ≤ _; rw [HM3.out]; exact lnkD_le _
    have HB4 := Lib.hid (HB3.out.trans (hb4.mono HB3.out.size)); have HZ4 := Lib.hid (HZ3.out.trans (hb4.mono HZ3.out.size))
    clear hm4 ho4 hb4
    go_wp2_with fail
    refine (sameD_any _ _ _ _ _ _ _ _ w4 HQ4.out HP4.out HN4.out rfl).mono ?_
    rintro e w5 ⟨rfl, hb5⟩
    have HB5 := Lib.hid (HB4.out.trans (hb5.mono HB4.out.size)); have HZ5 := Lib.hid (HZ4.out.trans (hb5.mono HZ4.out.size))
    clear hb5
    obtain ⟨l5, hL5, hR5⟩ := HX.out w5 HZ5.out
    have HR5 := Lib.hid hR5; have HL5 := Lib.hid hL5; clear hR5 hL5
    go_wp2_with fail
    refine HL5.out.mono ?_
    rintro e w6 ⟨sp6, m6, cap6, rfl, hm6, ho6, hb6⟩
    have HM6 := Lib.hid hm6; have HO6 := Lib.hid ho6; have HC6 := Lib.hid (HR5.out w6 hb6); have HB6 := Lib.hid (HB5.out.trans (hb6.mono HB5.out.size))
    clear hm6 ho6 hb6
    go_wp2_with fail
    refine HC6.out.mono ?_
    rintro e w7 ⟨sp7, m7, cap7, rfl, hm7, ho7, hb7⟩
    have HQ7 := Lib.hid (OwnDg.digs (HO6.out.below hb7) HM6.out.symm); have HP7 := Lib.hid (ho7.digs hm7.symm); have HN7 : Hid (m6 ≤ 1000000) := by show _ ≤ _; rw [HM6.out]; exact lnkD_le _
    have HB7 := Lib.hid (HB6.out.trans (hb7.mono HB6.out.size))
    clear hm7 ho7 hb7
    go_wp2_with fail
    refine (sameD_any _ _ _ _ _ _ _ _ w7 HQ7.out HP7.out HN7.out rfl).mono ?_
    rintro e w8 ⟨rfl, hb8⟩
    have HB8 := Lib.hid (HB7.out.trans (hb8.mono HB7.out.size))
    clear hb8
    go_wp2_with fail
    go_ret
    exact ⟨rfl, HB8.out⟩
  · have hd3 : ((k : Int) == 0) = false := by simp; omega
    go_enter Tryd.func6, Tryd.ntmps6
    go_wp2_with fail
    refine HE.out.mono ?_
    rintro e w1 ⟨v, rfl, ho, hb1⟩
    rw [hkk]
    have HB1 := Lib.hid hb1
    have HX := Lib.hid (twoOf (bsrc_nil w1))
    clear ho hb1 HE hkk hX h0
    go_wp2_with fail
    refine (awake5_any w1 (HK.out.below HB1.out hk0) (by have := HB1.out.size; omega)).mono ?_
    rintro e w2 ⟨rfl, hb2⟩
    have HB2 := Lib.hid (HB1.out.trans (hb2.mono HB1.out.size))
    have HZ2 : Hid (Below w1.heap.size w1 w2) := hb2
    clear hb2
    obtain ⟨l2, hL2, hR2⟩ := HTB.out w2 HB2.out
    have HR2 := Lib.hid hR2; have HL2 := Lib.hid hL2; clear hR2 hL2
    go_wp2_with fail
    refine HL2.out.mono ?_
    rintro e w3 ⟨sp3, m3, cap3, rfl, hm3, ho3, hb3⟩
    have HM3 := Lib.hid hm3; have HO3 := Lib.hid ho3; have HC3 := Lib.hid (HR2.out w3 hb3); have HB3 := Lib.hid (HB2.out.trans (hb3.mono HB2.out.size)); have HZ3 := Lib.hid (HZ2.out.trans (hb3.mono HZ2.out.size))
    clear hm3 ho3 hb3
    go_wp2_with fail
    refine HC3.out.mono ?_
    rintro e w4 ⟨sp4, m4, cap4, rfl, hm4, ho4, hb4⟩
    have HQ4 := Lib.hid (OwnDg.digs (HO3.out.below hb4) HM3.out.symm); have HP4 := Lib.hid (ho4.digs hm4.symm); have HN4 : Hid (m3 ≤ 1000000) := by show _ ≤ _; rw [HM3.out]; exact lnkD_le _
    have HB4 := Lib.hid (HB3.out.trans (hb4.mono HB3.out.size)); have HZ4 := Lib.hid (HZ3.out.trans (hb4.mono HZ3.out.size))
    clear hm4 ho4 hb4
    go_wp2_with fail
    refine (sameD_any _ _ _ _ _ _ _ _ w4 HQ4.out HP4.out HN4.out rfl).mono ?_
    rintro e w5 ⟨rfl, hb5⟩
    have HB5 := Lib.hid (HB4.out.trans (hb5.mono HB4.out.size)); have HZ5 := Lib.hid (HZ4.out.trans (hb5.mono HZ4.out.size))
    clear hb5
    obtain ⟨l5, hL5, hR5⟩ := HX.out w5 HZ5.out
    have HR5 := Lib.hid hR5; have HL5 := Lib.hid hL5; clear hR5 hL5
    go_wp2_with fail
    refine HL5.out.mono ?_
    rintro e w6 ⟨sp6, m6, cap6, rfl, hm6, ho6, hb6⟩
    have HM6 := Lib.hid hm6; have HO6 := Lib.hid ho6; have HC6 := Lib.hid (HR5.out w6 hb6); have HB6 := Lib.hid (HB5.out.trans (hb6.mono HB5.out.size))
    clear hm6 ho6 hb6
    go_wp2_with fail
    refine HC6.out.mono ?_
    rintro e w7 ⟨sp7, m7, cap7, rfl, hm7, ho7, hb7⟩
    have HQ7 := Lib.hid (OwnDg.digs (HO6.out.below hb7) HM6.out.symm); have HP7 := Lib.hid (ho7.digs hm7.symm); have HN7 : Hid (m6 ≤ 1000000) := by show _ ≤ _; rw [HM6.out]; exact lnkD_le _
    have HB7 := Lib.hid (HB6.out.trans (hb7.mono HB6.out.size))
    clear hm7 ho7 hb7
    go_wp2_with fail
    refine (sameD_any _ _ _ _ _ _ _ _ w7 HQ7.out HP7.out HN7.out rfl).mono ?_
    rintro e w8 ⟨rfl, hb8⟩
    have HB8 := Lib.hid (HB7.out.trans (hb8.mono HB7.out.size))
    clear hb8
    go_wp2_with fail
    go_ret
    exact ⟨rfl, HB8.out⟩
end Go.Proofs.YtikeaifjmeeeaaaDoor
