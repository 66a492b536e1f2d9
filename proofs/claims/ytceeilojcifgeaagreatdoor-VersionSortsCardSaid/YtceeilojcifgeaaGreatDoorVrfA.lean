/-
  Versions, the reference: cutting and splitting as lists, and the walks of Cut, Split, digit, letter, digits, made, number (strings of at most 100000 bytes).
-/
import Derived.Test.YtceeilojcifgeaaGreatDoorSplA
import Derived.Test.YtceeilojcifgeaaGreatDoorVerR
namespace Go.Proofs.YtceeilojcifgeaaGreatDoor
open Go.RowKit

/-- cut at the first c -/
def cutL (c : UInt8) : BL → BL × BL × Bool
  | [] => ([], [], false)
  | b :: l => if b = c then ([], l, true) else (b :: (cutL c l).1, (cutL c l).2.1, (cutL c l).2.2)
/-- split at every c -/
def spl (c : UInt8) : BL → List BL
  | [] => [[]]
  | b :: l => if b = c then [] :: spl c l else match spl c l with
    | [] => [[b]]
    | p :: ps => (b :: p) :: ps
theorem spl_ne (c : UInt8) : ∀ l : BL, spl c l ≠ []
  | [] => by simp [spl]
  | b :: l => by
    unfold spl
    split
    · simp
    · split <;> simp
theorem spl_app {c : UInt8} : ∀ {a : BL}, (∀ x ∈ a, x ≠ c) → ∀ r : BL, spl c (a ++ c :: r) = a :: spl c r
  | [], _, r => by rw [List.nil_append]; conv => lhs; unfold spl
                   rw [if_pos rfl]
  | b :: a, h, r => by
    rw [List.cons_append]; conv => lhs; unfold spl
    rw [if_neg (h b (by simp)), spl_app (fun x hx => h x (by simp [hx])) r]
theorem spl_one {c : UInt8} : ∀ {a : BL}, (∀ x ∈ a, x ≠ c) → spl c a = [a]
  | [], _ => rfl
  | b :: a, h => by
    unfold spl
    rw [if_neg (h b (by simp)), spl_one (fun x hx => h x (by simp [hx]))]
theorem cutL_app {c : UInt8} : ∀ {a : BL}, (∀ x ∈ a, x ≠ c) → ∀ r : BL, cutL c (a ++ c :: r) = (a, r, true)
  | [], _, r => by rw [List.nil_append]; unfold cutL; rw [if_pos rfl]
  | b :: a, h, r => by
    rw [List.cons_append]; unfold cutL
    rw [if_neg (h b (by simp)), cutL_app (fun x hx => h x (by simp [hx])) r]
theorem cutL_no {c : UInt8} : ∀ {a : BL}, (∀ x ∈ a, x ≠ c) → cutL c a = (a, [], false)
  | [], _ => rfl
  | b :: a, h => by
    unfold cutL
    rw [if_neg (h b (by simp)), cutL_no (fun x hx => h x (by simp [hx]))]
/-- where the first c is -/
theorem idx_cases (c : UInt8) : ∀ l : BL, (Lib.indexByte l c = -1 ∧ ∀ x ∈ l, x ≠ c) ∨ ∃ a r, l = a ++ c :: r ∧ (∀ x ∈ a, x ≠ c) ∧ Lib.indexByte l c = (a.length : Int)
  | [] => .inl ⟨rfl, fun x hx => by cases hx⟩
  | b :: l => by
    by_cases hb : b = c
    · subst hb
      exact .inr ⟨[], l, rfl, (fun x hx => by cases hx), by unfold Lib.indexByte; rw [if_pos (by simp)]; rfl⟩
    · rcases idx_cases c l with ⟨h1, h2⟩ | ⟨a, r, rfl, h2, h3⟩
      · refine .inl ⟨by unfold Lib.indexByte; rw [if_neg (by simp [hb]), h1]; rfl, fun x hx => ?_⟩
        rcases List.mem_cons.1 hx with rfl | hx
        · exact hb
        · exact h2 x hx
      · refine .inr ⟨b :: a, r, rfl, fun x hx => ?_, ?_⟩
        · rcases List.mem_cons.1 hx with rfl | hx
          · exact hb
          · exact h2 x hx
        · unfold Lib.indexByte
          rw [if_neg (by simp [hb]), h3, if_neg (by rw [beq_iff_eq]; omega), List.length_cons]; omega
theorem splitB_spl (c : UInt8) : ∀ (k : Nat) (l : BL), l.count c = k → Lib.splitB (oneB c) 0 k (bs l) = (spl c l).map bs := by
  intro k
  induction k with
  | zero =>
    intro l h
    rw [Lib.splitB_zero, spl_one (fun x hx e => by subst e; exact absurd (List.count_pos_iff.2 hx) (by omega))]; rfl
  | succ k ih =>
    intro l h
    rcases idx_cases c l with ⟨_, h2⟩ | ⟨a, r, rfl, h2, h3⟩
    · have : l.count c = 0 := List.count_eq_zero.2 (fun hx => h2 c hx rfl)
      omega
    · have hi : Lib.indexB (bs (a ++ c :: r)) (oneB c) = (a.length : Int) := by rw [indexB_oneS, bs_data, h3]
      rw [Lib.splitB_hit _ _ _ _ _ hi, spl_app h2, oneB_size, bs_take, bs_drop, List.map_cons]
      have e1 : (a ++ c :: r).take (a.length + 0) = a := by simp
      have e2 : (a ++ c :: r).drop (a.length + 1) = r := by
        rw [show a ++ c :: r = (a ++ [c]) ++ r by simp, show a.length + 1 = (a ++ [c]).length by simp, List.drop_left]
      rw [e1, e2, ih r]
      rw [List.count_append, List.count_cons_self, List.count_eq_zero.2 (fun hx => h2 c hx rfl)] at h; omega
/-- the pieces of a string, as Split hands them back -/
theorem split_rowV (c : UInt8) (l : BL) (w : World) (hl : l.length ≤ 100000) :
    Calls Tryz.prog 36 #[.string (bs l), .string (oneB c)] w fun e w' => e = .returned (.slice (some ⟨w.heap.size, 0, none⟩) (spl c l).length (spl c l).length) ∧ w' = w.alloc (.cells ((spl c l).map (fun p => Value.string (bs p))).toArray 9) := by
  have h := split_anyS (bs l) c w (by rw [bs_size]; omega)
  have hc : Lib.countB (bs l) (oneB c) = l.count c := by rw [countB_oneS, bs_data]; rfl
  rw [hc, splitB_spl c _ l rfl] at h
  have hlen : l.count c + 1 = (spl c l).length := by
    have := Lib.splitB_all (oneB c) (Nat.le_refl _) 0 _ (bs l) rfl
    rw [hc, splitB_spl c _ l rfl, List.length_map] at this; omega
  rw [hlen, List.map_map] at h
  exact h
set_option maxRecDepth 100000 in
set_option maxHeartbeats 1000000 in
theorem cutLite_anyV (c : UInt8) (l : BL) (w : World) (hl : l.length ≤ 100000) :
    Calls Tryz.prog 69 #[.string (bs l), .string (oneB c)] w fun e w' => e = .returned (.tuple #[.string (bs (cutL c l).1), .string (bs (cutL c l).2.1), .bool (cutL c l).2.2]) ∧ ∃ n, w' = w.drewN n := by
  have HI := Lib.hid (fun w => indexLite_anyS (bs l) c w)
  rw [indexB_oneS, bs_data] at HI
  rcases idx_cases c l with ⟨h1, h2⟩ | ⟨a, r, hlr, h2, h3⟩
  · have HX := Lib.hid (show cutL c l = (l, [], false) from cutL_no h2)
    rw [h1] at HI
    rw [HX.out]
    dsimp only
    clear h1 h2 hl
    generalize bs l = s at *
    generalize oneB c = o at *
    have e0 : bs [] = ⟨#[]⟩ := rfl
    rw [e0]
    clear e0
    go_enter Tryz.func69, Tryz.ntmps69
    go_wp2_with fail
    refine (HI.out _).mono ?_
    rintro e w' ⟨rfl, rfl⟩
    go_wp2_with fail
    go_ret3
    exact ⟨rfl, 0, rfl⟩
  · have HX := Lib.hid (show cutL c l = (a, r, true) by rw [hlr]; exact cutL_app h2 r)
    rw [h3] at HI
    rw [HX.out]
    dsimp only
    obtain ⟨s, hs, -, hsz, ht, hd⟩ := bs_facts l
    have e1 : l.take a.length = a := by rw [hlr]; simp
    have e2 : l.drop (a.length + 1) = r := by
      rw [hlr, show a ++ c :: r = (a ++ [c]) ++ r by simp, show a.length + 1 = (a ++ [c]).length by simp, List.drop_left]
    have HT := Lib.hid (show s.extract 0 a.length = bs a by rw [ht, e1])
    have HD := Lib.hid (show s.extract (a.length + 1) s.size = bs r by rw [hd, e2])
    have hll : l.length = a.length + (r.length + 1) := by rw [hlr]; simp
    obtain ⟨i, hi⟩ : ∃ i, a.length = i := ⟨_, rfl⟩
    rw [hs]
    rw [hs] at HI
    rw [hi] at HI HT HD hll
    have hs1 := oneB_size c
    have q0 : (0 : Int) ≤ (i : Int) := by omega
    have q1 : (i : Int) ≤ (s.size : Int) := by omega
    have q2 : (0 : Int) ≤ (i : Int) + 1 := by omega
    have q3 : (i : Int) + 1 ≤ (s.size : Int) := by omega
    have q5 : ((i : Int) + 1).toNat = i + 1 := by omega
    have q6 : decide ((i : Int) ≥ 0) = true := by simp
    have q4 : IntKind.i64.wrap ((i : Int) + 1) = (i : Int) + 1 := IntWalk.i64_in _ (by omega)
    clear hs hsz ht hd e1 e2 hi h2 h3 hlr hl hll
    go_enter Tryz.func69, Tryz.ntmps69
    go_wp2_with fail
    refine (HI.out _).mono ?_
    rintro e w' ⟨rfl, rfl⟩
    go_wp2_with fail
    go_quiet (fail)
    go_wp2_with fail
    go_ret3
    exact ⟨by rw [← HT.out, ← HD.out]; rfl, _, rfl⟩
set_option maxRecDepth 100000 in
set_option maxHeartbeats 400000 in
theorem cut_anyV (c : UInt8) (l : BL) (w : World) (hl : l.length ≤ 100000) :
    Calls Tryz.prog 48 #[.string (bs l), .string (oneB c)] w fun e w' => e = .returned (.tuple #[.string (bs (cutL c l).1), .string (bs (cutL c l).2.1), .bool (cutL c l).2.2]) ∧ ∃ n, w' = w.drewN n := by
  have HC := Lib.hid (fun w => cutLite_anyV c l w hl)
  generalize bs (cutL c l).1 = s1 at *
  generalize bs (cutL c l).2.1 = s2 at *
  generalize (cutL c l).2.2 = b at *
  go_enter Tryz.func48, Tryz.ntmps48
  go_wp2_with fail
  refine (HC.out _).mono ?_
  rintro e w' ⟨rfl, n, rfl⟩
  go_wp2_with fail
  go_ret3
  exact ⟨rfl, n, rfl⟩
theorem isD_and2 (c : UInt8) : isD c = (decide ((c.toNat : Int) ≥ 48) && decide ((c.toNat : Int) ≤ 57)) := isD_and c
set_option maxHeartbeats 400000 in
theorem rDigit_any (c : UInt8) (w : World) : Calls Tryz.prog 52 #[.int .u8 c.toNat] w fun e w' => e = .returned (.bool (isD c)) ∧ w = w' := by
  rw [isD_and2]
  by_cases h1 : 48 ≤ c.toNat
  · have d1 : decide ((c.toNat : Int) ≥ 48) = true := by simp; omega
    go_enter Tryz.func52, Tryz.ntmps52
    go_wp2
    go_ret
    exact ⟨ret_boolV (by rw [d1]; rfl), rfl⟩
  · have d1 : decide ((c.toNat : Int) ≥ 48) = false := by simp; omega
    go_enter Tryz.func52, Tryz.ntmps52
    go_wp2
    go_ret
    exact ⟨ret_boolV (by rw [d1]; rfl), rfl⟩
theorem isL_and2 (c : UInt8) : isL c = ((decide ((c.toNat : Int) ≥ 97) && decide ((c.toNat : Int) ≤ 122)) || (decide ((c.toNat : Int) ≥ 65) && decide ((c.toNat : Int) ≤ 90))) := isL_and c
set_option maxHeartbeats 400000 in
theorem rLetter_any (c : UInt8) (w : World) : Calls Tryz.prog 70 #[.int .u8 c.toNat] w fun e w' => e = .returned (.bool (isL c)) ∧ w = w' := by
  rw [isL_and2]
  by_cases h1 : 97 ≤ c.toNat
  · have d1 : decide ((c.toNat : Int) ≥ 97) = true := by simp; omega
    by_cases h2 : c.toNat ≤ 122
    · have d2 : decide ((c.toNat : Int) ≤ 122) = true := by simp; omega
      go_enter Tryz.func70, Tryz.ntmps70
      go_wp2
      go_ret
      exact ⟨ret_boolV (by rw [d1, d2]; rfl), rfl⟩
    · have d2 : decide ((c.toNat : Int) ≤ 122) = false := by simp; omega
      have d3 : decide ((c.toNat : Int) ≥ 65) = true := by simp; omega
      go_enter Tryz.func70, Tryz.ntmps70
      go_wp2
      go_ret
      exact ⟨ret_boolV (by rw [d1, d2, d3]; rfl), rfl⟩
  · have d1 : decide ((c.toNat : Int) ≥ 97) = false := by simp; omega
    by_cases h3 : 65 ≤ c.toNat
    · have d3 : decide ((c.toNat : Int) ≥ 65) = true := by simp; omega
      go_enter Tryz.func70, Tryz.ntmps70
      go_wp2
      go_ret
      exact ⟨ret_boolV (by rw [d1, d3]; rfl), rfl⟩
    · have d3 : decide ((c.toNat : Int) ≥ 65) = false := by simp; omega
      go_enter Tryz.func70, Tryz.ntmps70
      go_wp2
      go_ret
      exact ⟨ret_boolV (by rw [d1, d3]; rfl), rfl⟩
theorem bs_neE (l : BL) : ((bs l).toList != []) = !(l == []) := by rw [bne, bs_eqE]
theorem bs_empE (l : BL) : (!(bs l).toList.isEmpty) = !(l == []) := by rw [Lib.toList_data, bs_data]; cases l <;> rfl
theorem all_take {p : UInt8 → Bool} {l : BL} {k : Nat} (h : k < l.length) (h1 : ∀ c ∈ l.take k, p c = true) (h2 : p l[k] = true) : ∀ c ∈ l.take (k + 1), p c = true := all_succ h h1 h2
set_option maxRecDepth 100000 in
set_option maxHeartbeats 1000000 in
theorem rDigits_any (l : BL) (w : World) (hl : l.length ≤ 100000) :
    Calls Tryz.prog 37 #[.string (bs l)] w fun e w' => e = .returned (.bool (digs l)) ∧ w = w' := by
  obtain ⟨r, hr, hg, hs, -, -⟩ := bs_facts l
  have HG := Lib.hid hg; have HS := Lib.hid hs
  have hsz : r.size ≤ 100000 := by omega
  have HNE := Lib.hid (show (!r.toList.isEmpty) = !(l == []) by rw [← hr, bs_empE])
  rw [hr]
  clear hg hs hr
  go_enter Tryz.func37, Tryz.ntmps37
  go_wp2_with fail
  go_loop [3] (fun i => ∃ j : Nat, j ≤ r.size ∧ i = .int .i64 j ∧ Hid (∀ c ∈ l.take j, isD c = true)) (fun i => r.size - (intOf i).toNat)
  case atStart => exact ⟨0, Nat.zero_le _, rfl, fun c hc => by simp at hc⟩
  case round =>
    obtain ⟨j, hj, rfl, HA⟩ := hrel
    by_cases hlt : j < r.size
    · have hjl : j < l.length := by have := HS.out; omega
      have hd : decide ((j : Int) < (r.size : Int)) = true := by simp; omega
      have q0 : (0 : Int) ≤ (j : Int) := by omega
      have q1 : (j : Int) < (r.size : Int) := by omega
      have HC := Lib.hid (fun w => rDigit_any (r[j]) w)
      obtain ⟨q, hq⟩ : ∃ q, isD (r[j]) = q := ⟨_, rfl⟩
      have HQ := Lib.hid (show isD l[j] = q by rw [← HG.out j hlt hjl]; exact hq)
      rw [hq] at HC
      clear hq
      cases q
      · have HX := Lib.hid (show digs l = false by
          cases h : digs l
          · rfl
          · exact absurd (((digs_iff l).1 h).1 _ (List.getElem_mem hjl)) (by rw [HQ.out]; simp))
        go_wp2_with fail
        refine (HC.out _).mono ?_
        rintro e w' ⟨rfl, rfl⟩
        go_wp2_with fail
        go_ret
        exact ⟨by rw [HX.out]; rfl, rfl⟩
      · have HX := Lib.hid (all_succ hjl HA.out HQ.out)
        go_wp2_with fail
        refine (HC.out _).mono ?_
        rintro e w' ⟨rfl, rfl⟩
        go_wp2_with fail
        go_round
        case rel => exact ⟨j + 1, by omega, by go_num, HX.out⟩
        case measure => simp [intOf]; omega
    · obtain rfl : j = r.size := by omega
      have hd : decide ((r.size : Int) < (r.size : Int)) = false := by simp
      have HX := Lib.hid (show digs l = !(l == []) by
        have h1 : ∀ c ∈ l, isD c = true := by have := HA.out; rw [HS.out, List.take_length] at this; exact this
        rw [Bool.eq_iff_iff, digs_iff]
        simp only [Bool.not_eq_true', beq_eq_false_iff_ne]
        exact ⟨fun h => h.2, fun h => ⟨h1, h⟩⟩)
      have HQ := Lib.hid (show (!r.toList.isEmpty) = digs l by rw [HX.out, HNE.out])
      go_wp2_with fail
      go_ret
      exact ⟨ret_boolV HQ.out, rfl⟩
end Go.Proofs.YtceeilojcifgeaaGreatDoor
