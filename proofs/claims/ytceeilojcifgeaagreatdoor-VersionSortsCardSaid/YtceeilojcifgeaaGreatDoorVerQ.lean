/-
  Versions: the walks of LastIndexByte and debian (conditions: at most 64 bytes to be read).
-/
import Derived.Test.YtceeilojcifgeaaGreatDoorVerP
import Derived.Deep.QuietTactic
import Derived.BigQuiet
namespace Go.Proofs.YtceeilojcifgeaaGreatDoor
open Go.RowKit

/-- the last place of c among the first k bytes, or -1 -/
def lastK (c : UInt8) (l : BL) : Nat → Int
  | 0 => -1
  | k + 1 => if l.getD k 0 = c then (k : Int) else lastK c l k
theorem below_drewNV {B : Nat} {a w : World} (h : Below B a w) (n : Nat) : Below B a (w.drewN n) := ⟨h.os, h.tape, h.output, h.size, h.block⟩
theorem lastK_rng (c : UInt8) (l : BL) : ∀ k, -1 ≤ lastK c l k ∧ lastK c l k < k
  | 0 => by unfold lastK; omega
  | k + 1 => by have := lastK_rng c l k; unfold lastK; split <;> omega
theorem lastK_hit {c : UInt8} {l : BL} {k : Nat} (h : l.getD k 0 = c) : lastK c l (k + 1) = k := by rw [lastK, if_pos h]
theorem lastK_miss {c : UInt8} {l : BL} {k : Nat} (h : l.getD k 0 ≠ c) : lastK c l (k + 1) = lastK c l k := by rw [lastK, if_neg h]
theorem bs_head0 {c : UInt8} {u : BL} {su : ByteArray} (h : bs (c :: u) = su) (h0 : 0 < su.size) : su[0] = c := by subst h; exact bs_get _ 0 h0
def lastI (c : UInt8) (l : BL) : Int := lastK c l l.length
set_option maxRecDepth 100000 in
set_option maxHeartbeats 1000000 in
theorem lastByte_any (c : UInt8) (l : BL) (w : World) (hl : l.length ≤ 100000) :
    Calls Tryz.prog 72 #[.string (bs l), .int .u8 c.toNat] w fun e w' => e = .returned (.int .i64 (lastI c l)) ∧ w = w' := by
  obtain ⟨r, hr, hg, hs, -, -⟩ := bs_facts l
  have HG := Lib.hid hg; have HS := Lib.hid hs
  have hsz : r.size ≤ 100000 := by omega
  have HI := Lib.hid (show lastK c l r.size = lastI c l by rw [hs]; rfl)
  rw [hr]
  clear hg hs hr
  go_enter Tryz.func72, Tryz.ntmps72
  go_wp2_with fail
  go_loop [5] (fun i => ∃ j : Nat, j ≤ r.size ∧ i = .int .i64 ((j : Int) - 1) ∧ Hid (lastK c l j = lastI c l)) (fun i => (intOf i + 1).toNat)
  case atStart => exact ⟨r.size, Nat.le_refl _, rfl, HI.out⟩
  case round =>
    obtain ⟨j, hj, rfl, HX⟩ := hrel
    cases j with
    | zero =>
      have HY := Lib.hid (show lastI c l = -1 by rw [← HX.out]; rfl)
      have e0 : (((0 : Nat) : Int) - 1) = -1 := rfl
      rw [e0]
      clear e0
      go_wp2_with fail
      go_ret
      exact ⟨by rw [HY.out]; rfl, rfl⟩
    | succ j =>
      have e0 : (((j + 1 : Nat) : Int) - 1) = (j : Int) := by omega
      rw [e0]
      clear e0
      have q0 : (0 : Int) ≤ (j : Int) := by omega
      have q1 : (j : Int) < (r.size : Int) := by omega
      have hjs : j < r.size := by omega
      have hd : decide ((j : Int) ≥ 0) = true := by simp
      obtain ⟨q, hq⟩ : ∃ q, ((r[j].toNat : Int) == (c.toNat : Int)) = q := ⟨_, rfl⟩
      have HQ := Lib.hid (show (l.getD j 0 = c) ↔ q = true by
        have hjl : j < l.length := by have := HS.out; omega
        rw [← hq, beq_iff_eq, HG.out j hjs hjl, List.getD_eq_getElem?_getD, List.getElem?_eq_getElem hjl, Option.getD_some, ← UInt8.toNat_inj]; omega)
      cases q
      · have HY := Lib.hid (show lastK c l j = lastI c l by rw [← HX.out, lastK_miss (fun e => by have := HQ.out.1 e; cases this)])
        go_wp2_with fail
        go_round
        case rel => exact ⟨j, by omega, rfl, HY.out⟩
        case measure => first | (simp [intOf]; omega) | simp [intOf]
      · have HY := Lib.hid (show lastI c l = (j : Int) by rw [← HX.out, lastK_hit (HQ.out.2 rfl)])
        go_wp2_with fail
        go_ret
        exact ⟨by rw [HY.out]; rfl, rfl⟩
set_option maxRecDepth 100000 in
set_option maxHeartbeats 1000000 in
theorem lastIndexByte_any (c : UInt8) (l : BL) (w : World) (hl : l.length ≤ 100000) :
    Calls Tryz.prog 59 #[.string (bs l), .int .u8 c.toNat] w fun e w' => e = .returned (.int .i64 (lastI c l)) ∧ w = w' := by
  have HC := Lib.hid (fun w => lastByte_any c l w hl)
  go_enter Tryz.func59, Tryz.ntmps59
  go_wp2_with fail
  refine (HC.out _).mono ?_
  rintro e w' ⟨rfl, rfl⟩
  go_wp2_with fail
  go_ret
  exact ⟨rfl, rfl⟩
theorem part6_len : ∀ (n : Nat) (s q : BL), s.length ≤ n → part6 s = some q → q.length ≤ 3 * s.length + 3 := by
  intro n
  induction n with
  | zero =>
    intro s q hn h
    have e : s = [] := List.eq_nil_of_length_eq_zero (by omega)
    subst e
    have : part6 [] = some [2, 0, 2] := by rw [part6]; rfl
    rw [this] at h; injection h with h; subst h; decide
  | succ n ih =>
    intro s q hn h
    have t1 := tw_len notD s; have t2 : (dig6 s).length + (rest6 s).length = (s.dropWhile notD).length := tw_len isD (s.dropWhile notD)
    have n1 := num_length (dig6 s)
    obtain ⟨p, t, hp, ht, rfl⟩ := part6_step s q h
    have hpl := marks_len _ _ hp
    simp only [List.length_append, List.length_cons]
    by_cases hr : rest6 s = []
    · unfold tail6 at ht; rw [if_pos hr] at ht; injection ht with ht; subst ht; simp only [List.length_singleton]; omega
    · unfold tail6 at ht; rw [if_neg hr] at ht
      have hs : s ≠ [] := fun e => hr (by rw [e]; rfl)
      have := rest6_len s hs
      have := ih (rest6 s) t (by omega) ht
      omega
theorem prtS_len {s k k' : BL} (h : prtS s k = some k') : k'.length ≤ k.length + 3 * s.length + 3 := by
  unfold prtS at h
  obtain ⟨q, hq, rfl⟩ := Option.map_eq_some_iff.1 h
  have := part6_len _ s q (Nat.le_refl _) hq
  rw [List.length_append]; omega
/-- the upstream version and the revision -/
def upsD (l : BL) : BL := if lastI 45 l < 0 then l else l.take (lastI 45 l).toNat
def revD (l : BL) : BL := if lastI 45 l < 0 then [] else l.drop ((lastI 45 l).toNat + 1)
def debP (u r k : BL) : Option BL := match u with
  | [] => none
  | c :: _ => if isD c = true then (match prtS u k with
    | none => none
    | some k1 => prtS r k1) else none
/-- a Debian version: its key -/
def debS (l : BL) : Option BL := if 0 ≤ lastI 45 (epL l) ∧ revD (epL l) = [] then none else debP (upsD (epL l)) (revD (epL l)) (num (epD l))
set_option maxRecDepth 100000 in
set_option maxHeartbeats 4000000 in
theorem debian_any (B b : Nat) (l : BL) (w : World) (h : Rd B w b (bs l) []) (hl : l.length ≤ 64) :
    Calls Tryz.prog 39 #[.pointer (some ⟨b, 0, none⟩)] w (PostK B b w (debS l)) := by
  have HE := Lib.hid (epoch_any B b l [] w h hl (by simp; omega))
  have hel : (epL l).length ≤ 64 := by
    unfold epL; split
    · have := dw_le isD l; rw [List.length_drop]; omega
    · exact hl
  have hed : (epD l).length ≤ 64 := by
    unfold epD; split
    · have := tw_le isD l; omega
    · simp
  have hn1 := num_length (epD l)
  have HX := Lib.hid (show debS l = if 0 ≤ lastI 45 (epL l) ∧ revD (epL l) = [] then none else debP (upsD (epL l)) (revD (epL l)) (num (epD l)) from rfl)
  have HLI := Lib.hid (fun w => lastIndexByte_any 45 (epL l) w (by omega))
  rw [List.nil_append] at HE
  generalize epL l = r0 at *
  generalize num (epD l) = k0 at *
  have hk0 : k0.length ≤ 65 := by omega
  have hrg := lastK_rng 45 r0 r0.length
  have hrg2 : -1 ≤ lastI 45 r0 ∧ lastI 45 r0 < r0.length := hrg
  have HRS0 := bs_facts r0
  obtain ⟨rs, hrs, -, hsz, ht, hd⟩ := HRS0
  have HRS := Lib.hid hrs
  have hszz : rs.size ≤ 64 := by omega
  rw [hrs] at HLI
  have HT := Lib.hid ht; have HD := Lib.hid hd
  have HP := Lib.hid (fun (s : BL) (r : BL) (k : BL) w h (hs : s.length ≤ 64) (hk : k.length + 4 * s.length ≤ 800) => part_any B b s r k w h hs hk)
  clear ht hd hrs h
  have HSZ := Lib.hid hsz
  by_cases hi : lastI 45 r0 < 0
  · have hU : upsD r0 = r0 := if_pos hi
    have hV : revD r0 = [] := if_pos hi
    have HX2 := Lib.hid (show debS l = debP r0 [] k0 by rw [HX.out, if_neg (by intro h; omega), hU, hV])
    have hd : decide (lastI 45 r0 ≥ 0) = false := by simp; omega
    have e1 : lastI 45 r0 = -1 := by omega
    rw [e1] at HLI
    clear hd e1 hi hU hV HX hrg2 hsz
    obtain ⟨u, hu⟩ : ∃ u, r0 = u := ⟨_, rfl⟩
    have hrl : u.length ≤ 64 := by rw [← hu]; exact hel
    have HUS := Lib.hid (show bs u = rs by rw [← hu]; exact HRS.out)
    rw [show debP r0 [] k0 = debP u [] k0 by rw [hu]] at HX2
    clear hu
    have HVS := Lib.hid (show bs ([] : BL) = ⟨#[]⟩ from rfl)
    rcases u with _ | ⟨c, u2⟩
    · have HX3 := Lib.hid (show debS l = none from HX2.out)
      have hF : (rs.toList == []) = true := by rw [← HUS.out, bs_eqE]; rfl
      go_enter Tryz.func39, Tryz.ntmps39
      go_wp2_with fail
      refine HE.out.mono ?_
      rintro e w1 ⟨rfl, r1, b1⟩
      have hr1 := r1.rest
      have R1 := Lib.hid r1; have B1 := Lib.hid b1
      rw [HRS.out] at hr1
      have hlt1 := r1.lt
      clear r1 b1
      go_wp2_with fail
      refine (HLI.out _).mono ?_
      rintro e w' ⟨rfl, rfl⟩
      go_wp2_with fail
      go_ret
      exact PostK.mk0 HX3.out (B1.out)
    · have hF : (rs.toList == []) = false := by rw [← HUS.out, bs_eqE]; rfl
      obtain ⟨su, hsu⟩ : ∃ su, rs = su := ⟨_, rfl⟩
      have HSU := Lib.hid (show bs (c :: u2) = su by rw [← hsu, HUS.out])
      have hs0 : 0 < su.size := by rw [← HSU.out, bs_size]; simp
      have p0 : (0 : Int) < (su.size : Int) := by omega
      have HG0 := Lib.hid (bs_head0 HSU.out hs0)
      have HDG := Lib.hid (fun w => digit_any (su[0]) w)
      rw [hsu] at hF
      have HP1 := Lib.hid (fun w h => HP.out (c :: u2) r0 k0 w h (by simp at hrl ⊢; omega) (by simp at hrl ⊢; omega))
      rw [HSU.out] at HP1
      obtain ⟨q, hq⟩ : ∃ q, isD (su[0]) = q := ⟨_, rfl⟩
      have HQ := Lib.hid (show isD c = q by rw [← HG0.out]; exact hq)
      rw [hq] at HDG
      clear hq
      subst hsu
      cases q
      · have HX3 := Lib.hid (show debS l = none by rw [HX2.out]; unfold debP; simp only [HQ.out]; rfl)
        go_enter Tryz.func39, Tryz.ntmps39
        go_wp2_with fail
        refine HE.out.mono ?_
        rintro e w1 ⟨rfl, r1, b1⟩
        have hr1 := r1.rest
        have R1 := Lib.hid r1; have B1 := Lib.hid b1
        rw [HRS.out] at hr1
        have hlt1 := r1.lt
        clear r1 b1
        go_wp2_with fail
        refine (HLI.out _).mono ?_
        rintro e w' ⟨rfl, rfl⟩
        go_wp2_with fail
        refine (HDG.out _).mono ?_
        rintro e w' ⟨rfl, rfl⟩
        go_wp2_with fail
        go_ret
        exact PostK.mk0 HX3.out (B1.out)
      · obtain ⟨o, ho⟩ : ∃ o, prtS (c :: u2) k0 = o := ⟨_, rfl⟩
        rw [ho] at HP1
        have HO := Lib.hid ho
        rcases o with _ | k1
        · have HX3 := Lib.hid (show debS l = none by rw [HX2.out]; unfold debP; simp only [HQ.out, HO.out]; rfl)
          clear ho
          go_enter Tryz.func39, Tryz.ntmps39
          go_wp2_with fail
          refine HE.out.mono ?_
          rintro e w1 ⟨rfl, r1, b1⟩
          have hr1 := r1.rest
          have R1 := Lib.hid r1; have B1 := Lib.hid b1
          rw [HRS.out] at hr1
          have hlt1 := r1.lt
          clear r1 b1
          go_wp2_with fail
          refine (HLI.out _).mono ?_
          rintro e w' ⟨rfl, rfl⟩
          go_wp2_with fail
          refine (HDG.out _).mono ?_
          rintro e w' ⟨rfl, rfl⟩
          go_wp2_with fail
          refine (HP1.out _ R1.out).mono ?_
          rintro e w2 ⟨rfl, b2, -⟩
          have B2 := Lib.hid b2; clear b2
          go_wp2_with fail
          go_ret
          exact PostK.mk0 HX3.out ((B1.out).trans B2.out)
        · have hk1 := prtS_len ho
          clear ho
          have HP2 := Lib.hid (fun r w h => HP.out ([] : BL) r k1 w h (by simp) (by simp at hk1 hrl ⊢; omega))
          rw [HVS.out] at HP2
          obtain ⟨o, ho⟩ : ∃ o, prtS ([] : BL) k1 = o := ⟨_, rfl⟩
          rw [ho] at HP2
          have HO2 := Lib.hid ho
          clear ho
          have HX3 := Lib.hid (show debS l = o by rw [HX2.out]; unfold debP; simp only [HQ.out, HO.out, HO2.out]; rfl)
          rw [HX3.out]
          go_enter Tryz.func39, Tryz.ntmps39
          go_wp2_with fail
          refine HE.out.mono ?_
          rintro e w1 ⟨rfl, r1, b1⟩
          have hr1 := r1.rest
          have R1 := Lib.hid r1; have B1 := Lib.hid b1
          rw [HRS.out] at hr1
          have hlt1 := r1.lt
          clear r1 b1
          go_wp2_with fail
          refine (HLI.out _).mono ?_
          rintro e w' ⟨rfl, rfl⟩
          go_wp2_with fail
          refine (HDG.out _).mono ?_
          rintro e w' ⟨rfl, rfl⟩
          go_wp2_with fail
          refine (HP1.out _ R1.out).mono ?_
          rintro e w2 ⟨rfl, b2, r2⟩
          obtain ⟨r2s, r2⟩ := r2 _ rfl
          rw [← bs_of r2s] at r2
          have B2 := Lib.hid b2; have R2 := Lib.hid r2; clear b2 r2
          go_wp2_with fail
          refine (HP2.out _ _ R2.out).mono ?_
          rintro e w3 ⟨rfl, b3, r3⟩
          have B3 := Lib.hid b3; have R3 := Lib.hid r3; clear b3 r3
          go_wp2_with fail
          go_ret
          exact ⟨rfl, ((B1.out).trans B2.out).trans B3.out, R3.out⟩
  · obtain ⟨i, hi2⟩ : ∃ i : Nat, lastI 45 r0 = (i : Int) := ⟨(lastI 45 r0).toNat, by omega⟩
    have hU : upsD r0 = r0.take i := by unfold upsD; rw [if_neg hi, hi2]; rfl
    have hV : revD r0 = r0.drop (i + 1) := by unfold revD; rw [if_neg hi, hi2]; rfl
    have hil : i < r0.length := by omega
    have HTI := Lib.hid (HT.out i); have HDI := Lib.hid (HD.out (i + 1))
    rw [hi2] at HLI
    have q0 : (0 : Int) ≤ (i : Int) := by omega
    have q1 : (i : Int) ≤ (rs.size : Int) := by omega
    have q2 : (0 : Int) ≤ (i : Int) + 1 := by omega
    have q3 : (i : Int) + 1 ≤ (rs.size : Int) := by omega
    have q6 : decide ((i : Int) ≥ 0) = true := by simp
    have hul : (r0.take i).length + (r0.drop (i + 1)).length ≤ 64 := by rw [List.length_take, List.length_drop]; omega
    by_cases hv : r0.drop (i + 1) = []
    · have HX2 := Lib.hid (show debS l = none by rw [HX.out, if_pos ⟨by omega, by rw [hV, hv]⟩])
      have hE : ((rs.extract (i + 1) rs.size).toList == []) = true := by rw [HDI.out, hv, bs_eqE]; rfl
      have q4 : IntKind.i64.wrap ((i : Int) + 1) = (i : Int) + 1 := IntWalk.i64_in _ (by omega)
      have q5 : ((i : Int) + 1).toNat = i + 1 := by omega
      clear hv hU hV HX hi hi2 hrg2 hsz hil hul
      go_enter Tryz.func39, Tryz.ntmps39
      go_wp2_with fail
      refine HE.out.mono ?_
      rintro e w1 ⟨rfl, r1, b1⟩
      have hr1 := r1.rest
      have R1 := Lib.hid r1; have B1 := Lib.hid b1
      rw [HRS.out] at hr1
      have hlt1 := r1.lt
      clear r1 b1
      go_wp2_with fail
      refine (HLI.out _).mono ?_
      rintro e w' ⟨rfl, rfl⟩
      go_wp2_with fail
      go_quiet (fail)
      go_wp2_with fail
      go_ret
      exact PostK.mk0 HX2.out (below_drewNV B1.out _)
    · have HX2 := Lib.hid (show debS l = debP (r0.take i) (r0.drop (i + 1)) k0 by rw [HX.out, if_neg (fun h => hv (by rw [← hV]; exact h.2)), hU, hV])
      have hE : ((rs.extract (i + 1) rs.size).toList == []) = false := by rw [HDI.out, bs_eqE]; exact beq_eq_false_iff_ne.2 hv
      have q4 : IntKind.i64.wrap ((i : Int) + 1) = (i : Int) + 1 := IntWalk.i64_in _ (by omega)
      have q5 : ((i : Int) + 1).toNat = i + 1 := by omega
      clear hv hU hV HX hi hi2 hrg2 hsz hil
      generalize r0.take i = u at *
      generalize r0.drop (i + 1) = v at *
      rcases u with _ | ⟨c, u2⟩
      · have HX3 := Lib.hid (show debS l = none from HX2.out)
        have hF : ((rs.extract 0 i).toList == []) = true := by rw [HTI.out, bs_eqE]; rfl
        go_enter Tryz.func39, Tryz.ntmps39
        go_wp2_with fail
        refine HE.out.mono ?_
        rintro e w1 ⟨rfl, r1, b1⟩
        have hr1 := r1.rest
        have R1 := Lib.hid r1; have B1 := Lib.hid b1
        rw [HRS.out] at hr1
        have hlt1 := r1.lt
        clear r1 b1
        go_wp2_with fail
        refine (HLI.out _).mono ?_
        rintro e w' ⟨rfl, rfl⟩
        go_wp2_with fail
        go_quiet (fail)
        go_wp2_with fail
        go_ret
        exact PostK.mk0 HX3.out (below_drewNV B1.out _)
      · have hF : ((rs.extract 0 i).toList == []) = false := by rw [HTI.out, bs_eqE]; rfl
        obtain ⟨su, hsu⟩ : ∃ su, (rs.extract 0 i) = su := ⟨_, rfl⟩
        have HSU := Lib.hid (show bs (c :: u2) = su by rw [← hsu, HTI.out])
        have hs0 : 0 < su.size := by rw [← HSU.out, bs_size]; simp
        have p0 : (0 : Int) < (su.size : Int) := by omega
        have HG0 := Lib.hid (bs_head0 HSU.out hs0)
        have HDG := Lib.hid (fun w => digit_any (su[0]) w)
        rw [hsu] at hF
        have HP1 := Lib.hid (fun w h => HP.out (c :: u2) r0 k0 w h (by simp at hul ⊢; omega) (by simp at hul ⊢; omega))
        rw [HSU.out] at HP1
        obtain ⟨q, hq⟩ : ∃ q, isD (su[0]) = q := ⟨_, rfl⟩
        have HQ := Lib.hid (show isD c = q by rw [← HG0.out]; exact hq)
        rw [hq] at HDG
        clear hq
        cases q
        · have HX3 := Lib.hid (show debS l = none by rw [HX2.out]; unfold debP; simp only [HQ.out]; rfl)
          go_enter Tryz.func39, Tryz.ntmps39
          go_wp2_with fail
          refine HE.out.mono ?_
          rintro e w1 ⟨rfl, r1, b1⟩
          have hr1 := r1.rest
          have R1 := Lib.hid r1; have B1 := Lib.hid b1
          rw [HRS.out] at hr1
          have hlt1 := r1.lt
          clear r1 b1
          go_wp2_with fail
          refine (HLI.out _).mono ?_
          rintro e w' ⟨rfl, rfl⟩
          go_wp2_with fail
          go_quiet (fail)
          go_wp2_with fail
          refine (HDG.out _).mono ?_
          rintro e w' ⟨rfl, rfl⟩
          go_wp2_with fail
          go_ret
          exact PostK.mk0 HX3.out (below_drewNV B1.out _)
        · obtain ⟨o, ho⟩ : ∃ o, prtS (c :: u2) k0 = o := ⟨_, rfl⟩
          rw [ho] at HP1
          have HO := Lib.hid ho
          rcases o with _ | k1
          · have HX3 := Lib.hid (show debS l = none by rw [HX2.out]; unfold debP; simp only [HQ.out, HO.out]; rfl)
            clear ho
            go_enter Tryz.func39, Tryz.ntmps39
            go_wp2_with fail
            refine HE.out.mono ?_
            rintro e w1 ⟨rfl, r1, b1⟩
            have hr1 := r1.rest
            have R1 := Lib.hid r1; have B1 := Lib.hid b1
            rw [HRS.out] at hr1
            have hlt1 := r1.lt
            clear r1 b1
            go_wp2_with fail
            refine (HLI.out _).mono ?_
            rintro e w' ⟨rfl, rfl⟩
            go_wp2_with fail
            go_quiet (fail)
            go_wp2_with fail
            refine (HDG.out _).mono ?_
            rintro e w' ⟨rfl, rfl⟩
            go_wp2_with fail
            refine (HP1.out (w1.drewN nq) R1.out).mono ?_
            rintro e w2 ⟨rfl, b2, -⟩
            have B2 := Lib.hid b2; clear b2
            go_wp2_with fail
            go_ret
            exact PostK.mk0 HX3.out ((below_drewNV B1.out _).trans B2.out)
          · have hk1 := prtS_len ho
            clear ho
            have HP2 := Lib.hid (fun r w h => HP.out v r k1 w h (by simp at hul; omega) (by simp at hul hk1; omega))
            rw [← HDI.out] at HP2
            obtain ⟨o, ho⟩ : ∃ o, prtS v k1 = o := ⟨_, rfl⟩
            rw [ho] at HP2
            have HO2 := Lib.hid ho
            clear ho
            have HX3 := Lib.hid (show debS l = o by rw [HX2.out]; unfold debP; simp only [HQ.out, HO.out, HO2.out]; rfl)
            rw [HX3.out]
            go_enter Tryz.func39, Tryz.ntmps39
            go_wp2_with fail
            refine HE.out.mono ?_
            rintro e w1 ⟨rfl, r1, b1⟩
            have hr1 := r1.rest
            have R1 := Lib.hid r1; have B1 := Lib.hid b1
            rw [HRS.out] at hr1
            have hlt1 := r1.lt
            clear r1 b1
            go_wp2_with fail
            refine (HLI.out _).mono ?_
            rintro e w' ⟨rfl, rfl⟩
            go_wp2_with fail
            go_quiet (fail)
            go_wp2_with fail
            refine (HDG.out _).mono ?_
            rintro e w' ⟨rfl, rfl⟩
            go_wp2_with fail
            refine (HP1.out (w1.drewN nq) R1.out).mono ?_
            rintro e w2 ⟨rfl, b2, r2⟩
            obtain ⟨r2s, r2⟩ := r2 _ rfl
            rw [← bs_of r2s] at r2
            have B2 := Lib.hid b2; have R2 := Lib.hid r2; clear b2 r2
            go_wp2_with fail
            refine (HP2.out _ _ R2.out).mono ?_
            rintro e w3 ⟨rfl, b3, r3⟩
            have B3 := Lib.hid b3; have R3 := Lib.hid r3; clear b3 r3
            go_wp2_with fail
            go_ret
            exact ⟨rfl, ((below_drewNV B1.out _).trans B2.out).trans B3.out, R3.out⟩
end Go.Proofs.YtceeilojcifgeaaGreatDoor
