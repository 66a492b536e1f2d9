/-
  Versions, the reference: the walk of Valid (strings of at most 100000 bytes).
-/
import Derived.Test.YtceeilojcifgeaaGreatDoorVrfD
namespace Go.Proofs.YtceeilojcifgeaaGreatDoor
open Go.RowKit

/-- which strings are versions, as the reference says -/
def rValB (s : Int) (l : BL) : Bool := if l = [] ∨ 64 < l.length then false else if s = 1 then (semR l).isSome else if s = 2 then (debR l).isSome else if s = 3 then (spl 46 l).all digs else false
theorem PostS.none {B : Nat} {w w' : World} {e : Ending} (h : PostS B w none e w') : e = .returned (.tuple #[.slice none 0 0, .slice none 0 0, .bool false]) ∧ Below B w w' := ⟨h.2, h.1⟩
theorem PostS.some {B : Nat} {w w' : World} {p : List BL × List BL} {e : Ending} (h : PostS B w (some p) e w') : ∃ v u, e = .returned (.tuple #[v, u, .bool true]) ∧ RowS B w' v p.1 ∧ RowS B w' u p.2 ∧ Below B w w' := by
  obtain ⟨hb, v, u, h1, h2, h3⟩ := h; exact ⟨v, u, h1, h2, h3, hb⟩
theorem PostD.none {B : Nat} {w w' : World} {e : Ending} (h : PostD B w none e w') : e = .returned (.tuple #[.slice none 0 0, .bool false]) ∧ Below B w w' := ⟨h.2, h.1⟩
theorem PostD.some {B : Nat} {w w' : World} {p : List BL} {e : Ending} (h : PostD B w (some p) e w') : ∃ v, e = .returned (.tuple #[v, .bool true]) ∧ RowS B w' v p ∧ Below B w w' := by
  obtain ⟨hb, v, h1, h2⟩ := h; exact ⟨v, h1, h2, hb⟩
set_option maxRecDepth 100000 in
set_option maxHeartbeats 4000000 in
theorem rValid_any (s : Int) (l : BL) (w : World) (hl : l.length ≤ 100000) :
    Calls Tryz.prog 23 #[.int .i64 s, .string (bs l)] w fun e w' => e = .returned (.bool (rValB s l)) ∧ Below w.heap.size w w' := by
  have HE : Hid (rValB s l = if l = [] ∨ 64 < l.length then false else if s = 1 then (semR l).isSome else if s = 2 then (debR l).isSome else if s = 3 then (spl 46 l).all digs else false) := rfl
  by_cases h0 : l = []
  · have HX := Lib.hid (show rValB s l = false by rw [HE.out, if_pos (.inl h0)])
    subst h0
    have e0 : bs [] = ⟨#[]⟩ := rfl
    rw [e0]
    clear e0
    go_enter Tryz.func23, Tryz.ntmps23
    go_wp2_with fail
    go_ret
    exact ⟨by rw [HX.out]; rfl, Below.refl _ _⟩
  · have hne : ((bs l).toList == []) = false := by rw [bs_eqE]; exact beq_eq_false_iff_ne.2 h0
    have hsz := bs_size l
    by_cases h64 : 64 < l.length
    · have HX := Lib.hid (show rValB s l = false by rw [HE.out, if_pos (.inr h64)])
      have hd : decide (((bs l).size : Int) > 64) = true := by simp; omega
      clear hsz
      generalize bs l = sl at *
      go_enter Tryz.func23, Tryz.ntmps23
      go_wp2_with fail
      go_ret
      exact ⟨by rw [HX.out]; rfl, Below.refl _ _⟩
    · have hd : decide (((bs l).size : Int) > 64) = false := by simp; omega
      have HE2 := Lib.hid (show rValB s l = if s = 1 then (semR l).isSome else if s = 2 then (debR l).isSome else if s = 3 then (spl 46 l).all digs else false by rw [HE.out, if_neg (by rintro (h | h); exact h0 h; exact h64 h)])
      have HSM := Lib.hid (fun w => rSemver_any l w hl)
      have HDB := Lib.hid (fun w => rDebian_any l w hl)
      have HSP := Lib.hid (fun w => split_rowV 46 l w hl)
      have HPL := Lib.hid (fun p hp => Nat.le_trans (spl_len 46 l p hp) hl)
      have hpc : (spl 46 l).length ≤ 100001 := by have := spl_count 46 l; omega
      clear hsz h64 h0 hl
      generalize bs l = sl at *
      by_cases h1 : s = 1
      · subst h1
        have HX := Lib.hid (show rValB 1 l = (semR l).isSome from HE2.out)
        rw [HX.out]
        generalize semR l = o at *
        cases o with
        | none =>
          go_enter Tryz.func23, Tryz.ntmps23
          go_wp2_with fail
          refine (HSM.out _).mono ?_
          rintro e w1 hp
          obtain ⟨rfl, b1⟩ := PostS.none hp
          have B1 := Lib.hid b1; clear b1 hp
          go_wp2_with fail
          go_ret
          exact ⟨rfl, B1.out⟩
        | some p =>
          go_enter Tryz.func23, Tryz.ntmps23
          go_wp2_with fail
          refine (HSM.out _).mono ?_
          rintro e w1 hp
          obtain ⟨v, u, rfl, -, -, b1⟩ := PostS.some hp
          have B1 := Lib.hid b1; clear b1 hp
          go_wp2_with fail
          go_ret
          exact ⟨rfl, B1.out⟩
      · have e1 : (s == 1) = false := by simpa using h1
        by_cases h2 : s = 2
        · subst h2
          have HX := Lib.hid (show rValB 2 l = (debR l).isSome from HE2.out)
          rw [HX.out]
          generalize debR l = o at *
          cases o with
          | none =>
            go_enter Tryz.func23, Tryz.ntmps23
            go_wp2_with fail
            refine (HDB.out _).mono ?_
            rintro e w1 hp
            obtain ⟨rfl, b1⟩ := PostD.none hp
            have B1 := Lib.hid b1; clear b1 hp
            go_wp2_with fail
            go_ret
            exact ⟨rfl, B1.out⟩
          | some p =>
            go_enter Tryz.func23, Tryz.ntmps23
            go_wp2_with fail
            refine (HDB.out _).mono ?_
            rintro e w1 hp
            obtain ⟨v, rfl, -, b1⟩ := PostD.some hp
            have B1 := Lib.hid b1; clear b1 hp
            go_wp2_with fail
            go_ret
            exact ⟨rfl, B1.out⟩
        · have e2 : (s == 2) = false := by simpa using h2
          by_cases h3 : s = 3
          · subst h3
            have HX := Lib.hid (show rValB 3 l = (spl 46 l).all digs from HE2.out)
            rw [HX.out]
            generalize spl 46 l = ps at *
            have HSP2 := Lib.hid (HSP.out w)
            have HROW := Lib.hid (row_new w ps)
            have HB := Lib.hid ((Below.refl w.heap.size w).alloc (Nat.le_refl _) (.cells (ps.map (fun p => Value.string (bs p))).toArray 9))
            obtain ⟨np, hnp⟩ : ∃ np, ps.length = np := ⟨_, rfl⟩
            have HNP := Lib.hid hnp
            rw [hnp] at HSP2 hpc
            generalize w.alloc (.cells (ps.map (fun p => Value.string (bs p))).toArray 9) = wn at *
            clear hnp HSP h1 h2 e1 e2
            go_enter Tryz.func23, Tryz.ntmps23
            go_wp2_with fail
            refine HSP2.out.mono ?_
            rintro e w' ⟨rfl, rfl⟩
            go_wp2_with fail
            go_loop [11] (fun i => ∃ j : Nat, j ≤ np ∧ i = .int .i64 j ∧ Hid ((ps.take j).all digs = true)) (fun i => np - (intOf i).toNat)
            case atStart => exact ⟨0, Nat.zero_le _, rfl, by rw [List.take_zero]; rfl⟩
            case round =>
              obtain ⟨j, hj, rfl, HA⟩ := hrel
              by_cases hlt : j < np
              · have hjl : j < ps.length := by have := HNP.out; omega
                have hd : decide ((j : Int) < (np : Int)) = true := by simp; omega
                have q0 : (0 : Int) ≤ (j : Int) := by omega
                have q1 : (j : Int) < (np : Int) := by omega
                have hcj := row_cell HROW.out j hjl
                have HDG := Lib.hid (fun w => rDigits_any ps[j] w (HPL.out _ (List.getElem_mem hjl)))
                have NXT := Lib.hid (fun h : digs ps[j] = true => all_snoc hjl HA.out h)
                have NOT := Lib.hid (fun h : digs ps[j] = false => all_no hjl h)
                generalize digs ps[j] = x at *
                generalize bs ps[j] = sj at *
                cases x
                · have HX2 := Lib.hid (NOT.out rfl)
                  clear NXT NOT
                  go_wp2_with fail
                  refine (HDG.out _).mono ?_
                  rintro e w' ⟨rfl, rfl⟩
                  go_wp2_with fail
                  go_ret
                  exact ⟨by rw [HX2.out]; rfl, HB.out⟩
                · have HX2 := Lib.hid (NXT.out rfl)
                  clear NXT NOT
                  go_wp2_with fail
                  refine (HDG.out _).mono ?_
                  rintro e w' ⟨rfl, rfl⟩
                  go_wp2_with fail
                  go_round
                  case rel => exact ⟨j + 1, by omega, by go_num, HX2.out⟩
                  case measure => simp [intOf]; omega
              · obtain rfl : j = np := by omega
                have hd : decide ((j : Int) < (j : Int)) = false := by simp
                have HALL := Lib.hid (show ps.all digs = true by have := HA.out; rw [← HNP.out, List.take_length] at this; exact this)
                go_wp2_with fail
                go_ret
                exact ⟨by rw [HALL.out]; rfl, HB.out⟩
          · have e3 : (s == 3) = false := by simpa using h3
            have HX := Lib.hid (show rValB s l = false by rw [HE2.out, if_neg h1, if_neg h2, if_neg h3])
            clear h1 h2 h3
            go_enter Tryz.func23, Tryz.ntmps23
            go_wp2_with fail
            go_ret
            exact ⟨by rw [HX.out]; rfl, Below.refl _ _⟩
end Go.Proofs.YtceeilojcifgeaaGreatDoor
