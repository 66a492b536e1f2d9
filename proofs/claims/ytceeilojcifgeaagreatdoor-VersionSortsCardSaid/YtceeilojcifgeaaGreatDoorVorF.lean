/-
  Versions, the reference: Order, Scheme and Compare answer as the program does (strings of at most 90000 bytes).
-/
import Derived.Test.YtceeilojcifgeaaGreatDoorVorE
namespace Go.Proofs.YtceeilojcifgeaaGreatDoor
open Go.RowKit

theorem semT_inv {core : BL} {ids ls p : List BL} (h : semT core ids = some (ls, p)) : ls = spl 46 core ∧ p = ids := by
  unfold semT at h
  rcases hs : spl 46 core with _ | ⟨a, _ | ⟨b, _ | ⟨c, _ | ⟨d, r⟩⟩⟩⟩ <;> rw [hs] at h
  · cases h
  · cases h
  · cases h
  · simp only [] at h
    split at h
    · injection h with h; injection h with h1 h2; exact ⟨h1.symm, h2.symm⟩
    · cases h
  · cases h
theorem semP_len {body : BL} {ls p : List BL} (h : semP body = some (ls, p)) : (∀ x ∈ ls ++ p, x.length ≤ body.length) ∧ p.length ≤ body.length + 1 := by
  have hc := cutL_len 45 body
  unfold semP at h
  split at h
  · split at h
    · obtain ⟨rfl, rfl⟩ := semT_inv h
      refine ⟨fun x hx => ?_, ?_⟩
      · rcases List.mem_append.1 hx with hx | hx
        · exact Nat.le_trans (spl_len _ _ x hx) hc.1
        · exact Nat.le_trans (spl_len _ _ x hx) hc.2
      · have := spl_count 46 (cutL 45 body).2.1; omega
    · cases h
  · obtain ⟨rfl, rfl⟩ := semT_inv h
    refine ⟨fun x hx => ?_, by simp⟩
    rw [List.append_nil] at hx
    exact Nat.le_trans (spl_len _ _ x hx) hc.1
theorem semR_len {l : BL} {ls p : List BL} (h : semR l = some (ls, p)) : (∀ x ∈ ls ++ p, x.length ≤ l.length) ∧ p.length ≤ l.length + 1 := by
  have hc := cutL_len 43 l
  unfold semR at h
  split at h
  · split at h
    · obtain ⟨h1, h2⟩ := semP_len h
      exact ⟨fun x hx => Nat.le_trans (h1 x hx) hc.1, by omega⟩
    · cases h
  · obtain ⟨h1, h2⟩ := semP_len h
    exact ⟨fun x hx => Nat.le_trans (h1 x hx) hc.1, by omega⟩
theorem ups_len (l : BL) : (upsD l).length ≤ l.length := by unfold upsD; split; exact Nat.le_refl _; rw [List.length_take]; omega
theorem rev_len (l : BL) : (revD l).length ≤ l.length := by unfold revD; split; simp; rw [List.length_drop]; omega
theorem debR2_len {ep rest : BL} {p : List BL} (h : debR2 ep rest = some p) : p = [ep, upsD rest, revD rest] := by
  unfold debR2 at h
  split at h
  · cases h
  · split at h
    · injection h with h; exact h.symm
    · cases h
theorem debR_len {l : BL} {p : List BL} (h : debR l = some p) : ∀ x ∈ p, x.length ≤ l.length + 1 := by
  have hc := cutL_len 58 l
  unfold debR at h
  split at h
  · rw [debR2_len h]
    intro x hx
    have h1 := ups_len (cutL 58 l).2.1; have h2 := rev_len (cutL 58 l).2.1
    rcases List.mem_cons.1 hx with rfl | hx
    · omega
    · rcases List.mem_cons.1 hx with rfl | hx
      · omega
      · rw [List.mem_singleton.1 hx]; omega
  · rw [debR2_len h]
    intro x hx
    have h1 := ups_len l; have h2 := rev_len l
    rcases List.mem_cons.1 hx with rfl | hx
    · simp
    · rcases List.mem_cons.1 hx with rfl | hx
      · omega
      · rw [List.mem_singleton.1 hx]; omega
theorem val_keyO {s : Int} {l : BL} (hs : schB s = true) (h : valB s l = true) : ∃ k, keyO s l = some k ∧ keyR s l = (k, 0) ∧ l.length ≤ 64 := by
  rw [valB_some hs] at h
  cases hk : keyO s l with
  | none => rw [hk] at h; cases h
  | some k =>
    refine ⟨k, rfl, keyR_some hs hk, ?_⟩
    rcases Nat.lt_or_ge 64 l.length with h64 | h64
    · unfold keyO at hk; rw [if_pos h64] at hk; cases hk
    · exact h64
set_option maxRecDepth 100000 in
set_option maxHeartbeats 1000000 in
theorem rOrd_any (s : Int) (a b : BL) (w : World) (hs : schB s = true) (ha : valB s a = true) (hb : valB s b = true) :
    Calls Tryz.prog 13 #[.int .i64 s, .string (bs a), .string (bs b)] w fun e w' => e = .returned (.int .i64 (lx (keyR s a).1 (keyR s b).1)) ∧ Below w.heap.size w w' := by
  obtain ⟨ka, hka, hra, hla⟩ := val_keyO hs ha
  obtain ⟨kb, hkb, hrb, hlb⟩ := val_keyO hs hb
  rw [hra, hrb]
  dsimp only
  rcases sch_cases hs with rfl | rfl | rfl
  · rw [keyO1 hla] at hka; rw [keyO1 hlb] at hkb
    have ra := sem_rel a; have rb := sem_rel b
    cases hsa : semR a with
    | none => rw [hsa] at ra; rw [show semS a = none from ra] at hka; cases hka
    | some pa =>
      cases hsb : semR b with
      | none => rw [hsb] at rb; rw [show semS b = none from rb] at hkb; cases hkb
      | some pb =>
        rw [hsa] at ra; rw [hsb] at rb
        obtain ⟨x0, x1, x2, hx, hxk, _, _, _, hxi⟩ := ra
        obtain ⟨y0, y1, y2, hy, hyk, _, _, _, hyi⟩ := rb
        obtain ⟨la, p⟩ := pa
        obtain ⟨lb, q⟩ := pb
        dsimp only at hx hy hxk hyk hxi hyi
        subst hx hy
        rw [hxk] at hka; rw [hyk] at hkb
        injection hka with hka; injection hkb with hkb
        obtain ⟨m1, n1⟩ := semR_len hsa
        obtain ⟨m2, n2⟩ := semR_len hsb
        have idw : ∀ {L : List BL} {l : BL}, (∀ x ∈ L, idOK x = true) → (∀ x ∈ L, x.length ≤ l.length) → l.length ≤ 64 → ∀ x ∈ L, IdW x := by
          intro L l h1 h2 h3 x hx
          have h4 := h1 x hx
          unfold idOK at h4
          rw [Bool.and_eq_true] at h4
          have h5 := (made_dash x).1 h4.1
          have := h2 x hx
          exact ⟨h5.1, h5.2, by omega⟩
        have hL : lx ka kb = semc x0 x1 x2 p y0 y1 y2 q := by
          rw [← hka, ← hkb]
          have l0 := m1 x0 (by simp); have l1 := m1 x1 (by simp); have l2 := m1 x2 (by simp)
          have k0 := m2 y0 (by simp); have k1 := m2 y1 (by simp); have k2 := m2 y2 (by simp)
          exact lx_sem _ _ _ _ _ _ _ _ ⟨by omega, by omega, by omega⟩ ⟨by omega, by omega, by omega⟩ (idw hxi (fun x hx => m1 x (by simp [hx])) hla) (idw hyi (fun x hx => m2 x (by simp [hx])) hlb)
        have HC := Lib.hid (fun w => rBySemver_any a b w (by omega) (by omega) x0 x1 x2 y0 y1 y2 p q hsa hsb (by
          intro l hl
          simp only [List.mem_cons, List.mem_append] at hl
          rcases hl with rfl | rfl | rfl | rfl | rfl | rfl | hl | hl
          · have := m1 l (by simp); omega
          · have := m1 l (by simp); omega
          · have := m1 l (by simp); omega
          · have := m2 l (by simp); omega
          · have := m2 l (by simp); omega
          · have := m2 l (by simp); omega
          · have := m1 l (by simp [hl]); omega
          · have := m2 l (by simp [hl]); omega) ⟨by omega, by omega⟩)
        rw [← hL] at HC
        generalize lx ka kb = R at *
        clear hL idw m1 m2 n1 n2 hka hkb hxk hyk hxi hyi hsa hsb hla hlb hra hrb ha hb hs
        generalize bs a = sa at *
        generalize bs b = sb at *
        go_enter Tryz.func13, Tryz.ntmps13
        go_wp2_with fail
        refine (HC.out _).mono ?_
        rintro e w1 ⟨rfl, b1⟩
        have B1 := Lib.hid b1; clear b1
        go_wp2_with fail
        go_ret
        exact ⟨rfl, B1.out⟩
  · rw [keyO2 hla] at hka; rw [keyO2 hlb] at hkb
    have ra := deb_rel a; have rb := deb_rel b
    cases hsa : debR a with
    | none => rw [hsa] at ra; rw [show debS a = none from ra] at hka; cases hka
    | some pa =>
      cases hsb : debR b with
      | none => rw [hsb] at rb; rw [show debS b = none from rb] at hkb; cases hkb
      | some pb =>
        rw [hsa] at ra; rw [hsb] at rb
        obtain ⟨x0, x1, x2, k1, k2, rfl, hxk, hp1, hp2⟩ := ra
        obtain ⟨y0, y1, y2, j1, j2, rfl, hyk, hq1, hq2⟩ := rb
        rw [hxk] at hka; rw [hyk] at hkb
        injection hka with hka; injection hkb with hkb
        have m1 := debR_len hsa; have m2 := debR_len hsb
        have l0 := m1 x0 (by simp); have l1 := m1 x1 (by simp); have l2 := m1 x2 (by simp)
        have i0 := m2 y0 (by simp); have i1 := m2 y1 (by simp); have i2 := m2 y2 (by simp)
        have hL : lx ka kb = fst0 (nord x0 y0) (fst0 (parc x1 y1) (parc x2 y2)) := by
          rw [← hka, ← hkb]
          exact lx_deb _ _ _ _ _ _ _ _ _ _ (by omega) (by omega) (by omega) (by omega) (by omega) (by omega) hp1 hp2 hq1 hq2
        have HC := Lib.hid (fun w => rByDebian_any a b w (by omega) (by omega) x0 x1 x2 y0 y1 y2 hsa hsb (by
          intro l hl
          simp only [List.mem_cons, List.not_mem_nil, or_false] at hl
          rcases hl with rfl | rfl | rfl | rfl | rfl | rfl <;> omega))
        rw [← hL] at HC
        generalize lx ka kb = R at *
        clear hL m1 m2 l0 l1 l2 i0 i1 i2 hka hkb hxk hyk hp1 hp2 hq1 hq2 hsa hsb hla hlb hra hrb ha hb hs
        generalize bs a = sa at *
        generalize bs b = sb at *
        go_enter Tryz.func13, Tryz.ntmps13
        go_wp2_with fail
        refine (HC.out _).mono ?_
        rintro e w1 ⟨rfl, b1⟩
        have B1 := Lib.hid b1; clear b1
        go_wp2_with fail
        go_ret
        exact ⟨rfl, B1.out⟩
  · rw [keyO3 hla, dot_rel _ a [] (Nat.le_refl _)] at hka; rw [keyO3 hlb, dot_rel _ b [] (Nat.le_refl _)] at hkb
    have HC := Lib.hid (fun w => rByDots_any a b w (by omega) (by omega))
    have hL : lx ka kb = dotc (spl 46 a) (spl 46 b) := by
      split at hka
      · rename_i h1
        split at hkb
        · rename_i h2
          injection hka with hka; injection hkb with hkb
          rw [← hka, ← hkb, List.nil_append, List.nil_append]
          have dw : ∀ {l : BL}, (spl 46 l).all digs = true → l.length ≤ 64 → ∀ d ∈ spl 46 l, DigW d := by
            intro l h h64 d hd
            have h3 := (digs_iff d).1 (List.all_eq_true.1 h d hd)
            have := spl_len 46 l d hd
            exact ⟨fun c hc => isD_ge (h3.1 c hc), by omega⟩
          exact lx_dotc _ _ (dw h1 hla) (dw h2 hlb)
        · cases hkb
      · cases hka
    rw [← hL] at HC
    generalize lx ka kb = R at *
    clear hL hka hkb hla hlb hra hrb ha hb hs
    generalize bs a = sa at *
    generalize bs b = sb at *
    go_enter Tryz.func13, Tryz.ntmps13
    go_wp2_with fail
    refine (HC.out _).mono ?_
    rintro e w1 ⟨rfl, b1⟩
    have B1 := Lib.hid b1; clear b1
    go_wp2_with fail
    go_ret
    exact ⟨rfl, B1.out⟩
set_option maxRecDepth 100000 in
set_option maxHeartbeats 400000 in
theorem rScheme_any (s : Int) (w : World) :
    Calls Tryz.prog 22 #[.int .i64 s] w fun e w' => e = .returned (.bool (schB s)) ∧ w = w' := by
  have HE : schB s = (decide (s ≥ 1) && decide (s ≤ 3)) := by
    unfold schB; rw [Bool.eq_iff_iff]; simp only [Bool.or_eq_true, beq_iff_eq, Bool.and_eq_true, decide_eq_true_iff]; omega
  rw [HE]
  by_cases h1 : 1 ≤ s
  · have d1 : decide (s ≥ 1) = true := by simpa using h1
    clear HE
    go_enter Tryz.func22, Tryz.ntmps22
    go_wp2
    go_ret
    exact ⟨ret_boolV (by rw [d1]; rfl), rfl⟩
  · have d1 : decide (s ≥ 1) = false := by simpa using h1
    clear HE
    go_enter Tryz.func22, Tryz.ntmps22
    go_wp2
    go_ret
    exact ⟨rfl, rfl⟩
theorem keyR_bad {s : Int} {l : BL} (hs : schB s = true) (h : valB s l = false) : (keyR s l).2 = 1 := by
  rw [valB_some hs] at h
  cases hk : keyO s l with
  | none => rw [keyR_none hs hk]
  | some k => rw [hk] at h; cases h
set_option maxRecDepth 100000 in
set_option maxHeartbeats 1000000 in
theorem rCompare_any (s : Int) (a b : BL) (w : World) (ha : a.length ≤ 90000) (hb : b.length ≤ 90000) :
    Calls Tryz.prog 9 #[.int .i64 s, .string (bs a), .string (bs b)] w fun e w' => e = .returned (.tuple #[.int .i64 (cmpR s a b).1, .int .i64 (cmpR s a b).2]) ∧ Below w.heap.size w w' := by
  have HSC := Lib.hid (fun w => rScheme_any s w)
  have HVA := Lib.hid (fun w => rValid_any s a w (by omega))
  have HVB := Lib.hid (fun w => rValid_any s b w (by omega))
  rw [← valB_eq] at HVA HVB
  have HE : Hid (cmpR s a b = if (keyR s a).2 ≠ 0 then (0, (keyR s a).2) else if (keyR s b).2 ≠ 0 then (0, (keyR s b).2) else (lx (keyR s a).1 (keyR s b).1, 0)) := rfl
  cases hs : schB s
  · have hk : keyR s a = ([], 14) := by unfold keyR; rw [hs]; rfl
    have HX := Lib.hid (show cmpR s a b = (0, 14) by rw [HE.out, hk]; rfl)
    rw [hs] at HSC
    rw [HX.out]
    clear hs hk
    generalize bs a = sa at *
    generalize bs b = sb at *
    go_enter Tryz.func9, Tryz.ntmps9
    go_wp2_with fail
    refine (HSC.out _).mono ?_
    rintro e w' ⟨rfl, rfl⟩
    go_wp2_with fail
    go_ret2
    exact ⟨rfl, Below.refl _ _⟩
  · have HSS := Lib.hid hs
    rw [hs] at HSC
    cases hva : valB s a
    · have HX := Lib.hid (show cmpR s a b = (0, 1) by rw [HE.out, keyR_bad hs hva]; rfl)
      rw [hva] at HVA
      rw [HX.out]
      clear hs hva
      generalize bs a = sa at *
      generalize bs b = sb at *
      go_enter Tryz.func9, Tryz.ntmps9
      go_wp2_with fail
      refine (HSC.out _).mono ?_
      rintro e w' ⟨rfl, rfl⟩
      go_wp2_with fail
      refine (HVA.out _).mono ?_
      rintro e w1 ⟨rfl, b1⟩
      have B1 := Lib.hid b1; clear b1
      go_wp2_with fail
      go_ret2
      exact ⟨rfl, B1.out⟩
    · obtain ⟨k1, _, hr1, _⟩ := val_keyO hs hva
      cases hvb : valB s b
      · have HX := Lib.hid (show cmpR s a b = (0, 1) by rw [HE.out, hr1, keyR_bad hs hvb]; rfl)
        rw [hva] at HVA; rw [hvb] at HVB
        rw [HX.out]
        clear hs hva hvb hr1
        generalize bs a = sa at *
        generalize bs b = sb at *
        go_enter Tryz.func9, Tryz.ntmps9
        go_wp2_with fail
        refine (HSC.out _).mono ?_
        rintro e w' ⟨rfl, rfl⟩
        go_wp2_with fail
        refine (HVA.out _).mono ?_
        rintro e w1 ⟨rfl, b1⟩
        have B1 := Lib.hid b1; clear b1
        go_wp2_with fail
        refine (HVB.out _).mono ?_
        rintro e w2 ⟨rfl, b2⟩
        have B2 := Lib.hid b2; clear b2
        go_wp2_with fail
        go_ret2
        exact ⟨rfl, nextB B1.out B2.out⟩
      · obtain ⟨k2, _, hr2, _⟩ := val_keyO hs hvb
        have HX := Lib.hid (show cmpR s a b = (lx (keyR s a).1 (keyR s b).1, 0) by rw [HE.out, hr1, hr2]; rfl)
        have HO := Lib.hid (fun w => rOrd_any s a b w hs hva hvb)
        rw [hva] at HVA; rw [hvb] at HVB
        rw [HX.out]
        dsimp only
        clear hs hva hvb hr1 hr2 HX HE
        generalize lx (keyR s a).1 (keyR s b).1 = R at *
        generalize bs a = sa at *
        generalize bs b = sb at *
        go_enter Tryz.func9, Tryz.ntmps9
        go_wp2_with fail
        refine (HSC.out _).mono ?_
        rintro e w' ⟨rfl, rfl⟩
        go_wp2_with fail
        refine (HVA.out _).mono ?_
        rintro e w1 ⟨rfl, b1⟩
        have B1 := Lib.hid b1; clear b1
        go_wp2_with fail
        refine (HVB.out _).mono ?_
        rintro e w2 ⟨rfl, b2⟩
        have B2 := Lib.hid b2; clear b2
        go_wp2_with fail
        refine (HO.out _).mono ?_
        rintro e w3 ⟨rfl, b3⟩
        have B3 := Lib.hid b3; clear b3
        go_wp2_with fail
        go_ret2
        exact ⟨rfl, nextB (nextB B1.out B2.out) B3.out⟩
end Go.Proofs.YtceeilojcifgeaaGreatDoor
