/-
  StoreSweeps: the walk of the law.
-/
import Derived.Test.YtfehgkpmjnmpeaaGreatDoorSweC
import Derived.Test.YtfehgkpmjnmpeaaGreatDoorSweD
import Derived.Test.YtfehgkpmjnmpeaaGreatDoorGy
import Derived.Test.YtfehgkpmjnmpeaaGreatDoorGj
import Derived.Test.YtfehgkpmjnmpeaaGreatDoorGt
namespace Go.Proofs.YtfehgkpmjnmpeaaGreatDoor
open Go.RowKit Go.Sort

/-- Sweep's answer as a value -/
def SwV (l : List Bl) (R : List (List Int)) (c : Int) (K : List Pr) : Prop := (vldP (l.map bp) = false ∧ c = 1 ∧ K = []) ∨ (vldP (l.map bp) = true ∧ ∃ P M, CloD l R P M ∧ c = 0 ∧ K = (keptL l P).map bp)
theorem swV_det {l : List Bl} {R : List (List Int)} {c c' : Int} {K K' : List Pr} (h : SwV l R c K) (h' : SwV l R c' K') : c = c' ∧ K = K' := by
  rcases h with ⟨h1, rfl, rfl⟩ | ⟨h1, P, M, h2, rfl, rfl⟩ <;> rcases h' with ⟨k1, rfl, rfl⟩ | ⟨k1, P', M', k2, rfl, rfl⟩
  · exact ⟨rfl, rfl⟩
  · rw [h1] at k1; cases k1
  · rw [h1] at k1; cases k1
  · rw [(h2.det k2).1]; exact ⟨rfl, rfl⟩
/-- a list of blobs and a code are answered -/
def Ans (V : Int → List Pr → Prop) (e : Ending) (w' : World) : Prop := ∃ (c : Int) (K : List Pr) (sp : Option Addr) (m cap : Nat) (L : List Bl), V c K ∧ e = .returned (.tuple #[.slice sp m cap, .int .i64 c]) ∧ L.map bp = K ∧ BlsIn w' w'.heap.size sp m cap L ∧ m ≤ 1000000
theorem SwpR.v {l : List Bl} {R : List (List Int)} {e : Ending} {w' : World} (h : SwpR l R e w') (hl : l.length ≤ 300) : Ans (SwV l R) e w' := by
  rcases h with ⟨h1, rfl⟩ | ⟨h1, P, M, sp, m, cap, L, h2, rfl, h3, h4, h5, _⟩
  · exact ⟨1, [], none, 0, 0, [], .inl ⟨h1, rfl, rfl⟩, rfl, rfl, BlsIn.nil _ _, by omega⟩
  · refine ⟨0, _, sp, m, cap, L, .inr ⟨h1, P, M, h2, rfl, rfl⟩, rfl, h4, h5, ?_⟩
    have h6 := congrArg List.length h4
    rw [List.length_map, List.length_map] at h6
    have := keptL_le l P
    omega
/-- Merge's answer as a value -/
def MgV (la lb : List Bl) (c : Int) (K : List Pr) : Prop := ((vldP (la.map bp) && vldP (lb.map bp)) = false ∧ c = 1 ∧ K = []) ∨
  ((vldP (la.map bp) && vldP (lb.map bp)) = true ∧ ((lb.any (conP la) = true ∧ c = 9 ∧ K = []) ∨ (lb.any (conP la) = false ∧ ∃ T, MrgL la lb T ∧ ((256 < T.length ∧ c = 3 ∧ K = []) ∨ (T.length ≤ 256 ∧ c = 0 ∧ K = T.map bp)))))
theorem mgV_det {la lb : List Bl} {c c' : Int} {K K' : List Pr} (h : MgV la lb c K) (h' : MgV la lb c' K') : c = c' ∧ K = K' := by
  rcases h with ⟨h1, rfl, rfl⟩ | ⟨h1, ⟨h2, rfl, rfl⟩ | ⟨h2, T, h3, h4⟩⟩ <;> rcases h' with ⟨k1, rfl, rfl⟩ | ⟨k1, ⟨k2, rfl, rfl⟩ | ⟨k2, T', k3, k4⟩⟩
  · exact ⟨rfl, rfl⟩
  · rw [h1] at k1; cases k1
  · rw [h1] at k1; cases k1
  · rw [h1] at k1; cases k1
  · exact ⟨rfl, rfl⟩
  · rw [h2] at k2; cases k2
  · rw [h1] at k1; cases k1
  · rw [h2] at k2; cases k2
  · have hT := h3.det k3
    subst hT
    rcases h4 with ⟨h5, rfl, rfl⟩ | ⟨h5, rfl, rfl⟩ <;> rcases k4 with ⟨k5, rfl, rfl⟩ | ⟨k5, rfl, rfl⟩
    · exact ⟨rfl, rfl⟩
    · omega
    · omega
    · exact ⟨rfl, rfl⟩
theorem MrgR.v {la lb : List Bl} {base : Nat} {e : Ending} {w' : World} (h : MrgR la lb base e w') : Ans (MgV la lb) e w' := by
  rcases h with ⟨h1, rfl⟩ | ⟨h1, ⟨h2, rfl⟩ | ⟨h2, T, h3, ⟨h4, rfl⟩ | ⟨h4, sp, cap, L, m, rfl, rfl, h6, h7, h8⟩⟩⟩
  · exact ⟨1, [], none, 0, 0, [], .inl ⟨h1, rfl, rfl⟩, rfl, rfl, BlsIn.nil _ _, by omega⟩
  · exact ⟨9, [], none, 0, 0, [], .inr ⟨h1, .inl ⟨h2, rfl, rfl⟩⟩, rfl, rfl, BlsIn.nil _ _, by omega⟩
  · exact ⟨3, [], none, 0, 0, [], .inr ⟨h1, .inr ⟨h2, T, h3, .inl ⟨h4, rfl, rfl⟩⟩⟩, rfl, rfl, BlsIn.nil _ _, by omega⟩
  · exact ⟨0, _, sp, _, cap, L, .inr ⟨h1, .inr ⟨h2, T, h3, .inr ⟨h4, rfl, rfl⟩⟩⟩, rfl, h7, h8.bls h6, by omega⟩
theorem rmergeA_any (spa : Option Addr) (na ca : Nat) (la : List Bl) (spb : Option Addr) (nb cb : Nat) (lb : List Bl) (w : World) (hla : BlsIn w w.heap.size spa na ca la) (hlb : BlsIn w w.heap.size spb nb cb lb) (hnla : spa = none → ca = 0) (hna : na ≤ 1000) (hnb : nb ≤ 1000) :
    Calls Tryz.prog 20 #[.slice spa na ca, .slice spb nb cb] w fun e w' => Ans (MgV la lb) e w' ∧ Below w.heap.size w w' := by
  cases hv : (vldP (la.map bp) && vldP (lb.map bp))
  · refine (rmergeN_any spa na ca la spb nb cb lb w hla hlb hna hnb hv).mono ?_
    rintro e w' ⟨rfl, hb⟩
    exact ⟨⟨1, [], none, 0, 0, [], .inl ⟨hv, rfl, rfl⟩, rfl, rfl, BlsIn.nil _ _, by omega⟩, hb⟩
  · have h12 := Bool.and_eq_true_iff.1 hv
    refine (rmergeV_any spa na ca la spb nb cb lb w hla hlb hnla hna hnb h12.1 h12.2).mono ?_
    rintro e w' ⟨h, hb⟩
    refine ⟨?_, hb⟩
    rcases h with ⟨h2, rfl⟩ | ⟨h2, T, h3, ⟨h4, rfl⟩ | ⟨h4, sp, m, cap, rfl, rfl, h7, _⟩⟩
    · exact ⟨9, [], none, 0, 0, [], .inr ⟨hv, .inl ⟨h2, rfl, rfl⟩⟩, rfl, rfl, BlsIn.nil _ _, by omega⟩
    · exact ⟨3, [], none, 0, 0, [], .inr ⟨hv, .inr ⟨h2, T, h3, .inl ⟨h4, rfl, rfl⟩⟩⟩, rfl, rfl, BlsIn.nil _ _, by omega⟩
    · exact ⟨0, _, sp, _, cap, T, .inr ⟨hv, .inr ⟨h2, T, h3, .inr ⟨h4, rfl, rfl⟩⟩⟩, rfl, rfl, h7, by omega⟩
set_option maxRecDepth 100000 in
set_option maxHeartbeats 4000000 in
theorem storeSweeps_any (spa : Option Addr) (na ca : Nat) (la : List Bl) (spb : Option Addr) (nb cb : Nat) (lb : List Bl) (rp : Option Addr) (rn rc : Nat) (R : List (List Int)) (w : World)
    (hla : BlsIn w w.heap.size spa na ca la) (hza : spa = none → ca = 0) (hna : na ≤ 9223372036854775807) (hya : ∀ x ∈ la, x.n ≤ 9223372036854775807)
    (hlb : BlsIn w w.heap.size spb nb cb lb) (hzb : spb = none → cb = 0) (hnb : nb ≤ 9223372036854775807) (hyb : ∀ x ∈ lb, x.n ≤ 9223372036854775807)
    (hR : DigsIn w w.heap.size rp rn rc R) (hrnil : rp = none → rc = 0) (hrn : rn ≤ 9223372036854775807) (hk : KayIn w) (hk0 : 1 < w.heap.size) :
    Calls Tryz.prog 5 #[.slice spa na ca, .slice spb nb cb, .slice rp rn rc] w fun e w' => e = .returned (.bool true) ∧ Below w.heap.size w w' := by
  have HLI := Lib.hid (lightW_any spa na ca la w hla hna hya)
  have HLJ := Lib.hid (fun w' h => lightW_any spb nb cb lb w' h hnb hyb)
  have HA := Lib.hid hla; have HBb := Lib.hid hlb; have HZA := Lib.hid hza; have HZB := Lib.hid hzb; have HR := Lib.hid hR; have HRN := Lib.hid hrnil; have HK := Lib.hid hk; have HK0 := Lib.hid hk0
  clear hla hlb hza hzb hR hrnil hk hk0 hya hyb
  go_enter Tryz.func5, Tryz.ntmps5
  go_wp2_with fail
  refine HLI.out.mono ?_
  rintro e w1 ⟨b, rfl, hb300, b1⟩
  have HB1 := Lib.hid b1; clear b1 HLI
  cases b
  · clear hb300
    go_wp2_with fail
    go_ret
    exact ⟨rfl, HB1.out⟩
  have h300 := hb300 rfl
  clear hb300 hna
  go_wp2_with fail
  refine (HLJ.out w1 (HBb.out.up HB1.out (Nat.le_refl _))).mono ?_
  rintro e w2 ⟨b, rfl, hb300, b2⟩
  have HB2 := Lib.hid (HB1.out.trans (b2.mono HB1.out.size)); clear b2 HLJ
  cases b
  · clear hb300
    go_wp2_with fail
    go_ret
    exact ⟨rfl, HB2.out⟩
  have h301 := hb300 rfl
  clear hb300 hnb
  by_cases h50 : rn ≤ 50
  case neg =>
    have hd : decide ((rn : Int) > 50) = true := by simp; omega
    go_wp2_with fail
    go_ret
    exact ⟨rfl, HB2.out⟩
  clear hrn
  have hd : decide ((rn : Int) > 50) = false := by simp; omega
  go_wp2_with fail
  refine (sweep_any spa na ca la rp rn rc R w2 (HA.out.up HB2.out (Nat.le_refl _)) (HR.out.upD HB2.out HB2.out.size) HRN.out h300 (by omega)).mono ?_
  rintro e w3 ⟨hsw, b3⟩
  obtain ⟨c1, K1, s1, m1, p1, L1, hv1, rfl, hk1, hl1, hm1⟩ := hsw.v (by rw [HA.out.len]; exact h300)
  have HB3 := Lib.hid (HB2.out.trans (b3.mono HB2.out.size))
  have HV1 := Lib.hid hv1; have HK1 := Lib.hid hk1; have HL1 := Lib.hid hl1; have HM1 := Lib.hid hm1
  clear hsw hv1 hk1 hl1 hm1 b3
  go_wp2_with fail
  refine (rsweep_any spa na ca la rp rn rc R w3 (HA.out.up HB3.out (Nat.le_refl _)) (HR.out.upD HB3.out HB3.out.size) h300 (by omega)).mono ?_
  rintro e w4 ⟨hsw, b4⟩
  obtain ⟨c2, K2, s2, m2, p2, L2, hv2, rfl, hk2, hl2, _⟩ := hsw.v (by rw [HA.out.len]; exact h300)
  obtain ⟨rfl, rfl⟩ := swV_det HV1.out hv2
  have HB4 := Lib.hid (HB3.out.trans (b4.mono HB3.out.size))
  have HL14 := Lib.hid (HL1.out.up b4 (Nat.le_refl _))
  have HK2 := Lib.hid hk2; have HL2 := Lib.hid hl2
  have hmm : m1 = m2 := by
    have h1 := congrArg List.length HK1.out; have h2 := congrArg List.length hk2
    rw [List.length_map, HL1.out.len] at h1; rw [List.length_map, hl2.len] at h2; omega
  subst hmm
  clear hsw hv2 hk2 hl2 b4 HL1 HV1
  go_wp2_with fail
  refine (merge_any spa na ca la spb nb cb lb w4 (HA.out.up HB4.out (Nat.le_refl _)) (HBb.out.up HB4.out (Nat.le_refl _)) HZA.out HZB.out (by omega) (by omega)).mono ?_
  rintro e w5 ⟨hmg, b5⟩
  obtain ⟨c3, K3, s3, m3, p3, L3, hv3, rfl, hk3, hl3, hm3⟩ := hmg.v
  have HB5 := Lib.hid (HB4.out.trans (b5.mono HB4.out.size))
  have HL15 := Lib.hid (HL14.out.up b5 (Nat.le_refl _)); have HL25 := Lib.hid (HL2.out.up b5 (Nat.le_refl _))
  have HV3 := Lib.hid hv3; have HK3 := Lib.hid hk3; have HL3 := Lib.hid hl3; have HM3 := Lib.hid hm3
  clear hmg hv3 hk3 hl3 hm3 b5 HL14 HL2
  go_wp2_with fail
  refine (rmergeA_any spa na ca la spb nb cb lb w5 (HA.out.up HB5.out (Nat.le_refl _)) (HBb.out.up HB5.out (Nat.le_refl _)) HZA.out (by omega) (by omega)).mono ?_
  rintro e w6 ⟨hmg, b6⟩
  obtain ⟨c4, K4, s4, m4, p4, L4, hv4, rfl, hk4, hl4, _⟩ := hmg
  obtain ⟨rfl, rfl⟩ := mgV_det HV3.out hv4
  have HB6 := Lib.hid (HB5.out.trans (b6.mono HB5.out.size))
  have HL16 := Lib.hid (HL15.out.up b6 (Nat.le_refl _)); have HL26 := Lib.hid (HL25.out.up b6 (Nat.le_refl _)); have HL36 := Lib.hid (HL3.out.up b6 (Nat.le_refl _))
  have HK4 := Lib.hid hk4; have HL4 := Lib.hid hl4
  have hmm : m3 = m4 := by
    have h1 := congrArg List.length HK3.out; have h2 := congrArg List.length hk4
    rw [List.length_map, HL3.out.len] at h1; rw [List.length_map, hl4.len] at h2; omega
  subst hmm
  clear hv4 hk4 hl4 b6 HL15 HL25 HL3 HV3
  go_wp2_with fail
  refine (awake5_any w6 (HK.out.below HB6.out HK0.out) (Nat.lt_of_lt_of_le HK0.out HB6.out.size)).mono ?_
  rintro e w7 ⟨rfl, b7⟩
  have HB7 := Lib.hid (HB6.out.trans (b7.mono HB6.out.size))
  have HL17 := Lib.hid (HL16.out.up b7 (Nat.le_refl _)); have HL27 := Lib.hid (HL26.out.up b7 (Nat.le_refl _)); have HL37 := Lib.hid (HL36.out.up b7 (Nat.le_refl _)); have HL47 := Lib.hid (HL4.out.up b7 (Nat.le_refl _))
  clear b7 HL16 HL26 HL36 HL4
  have hcc1 : (c1 == c1) = true := by simp
  have hcc3 : (c3 == c3) = true := by simp
  have hm1 := HM1.out; have hm3 := HM3.out
  go_wp2_with fail
  refine (same05_any s1 m1 p1 L1 s2 p2 L2 w7 HL17.out HL27.out (by omega) (HK1.out.trans HK2.out.symm)).mono ?_
  rintro e w8 ⟨rfl, b8⟩
  have HB8 := Lib.hid (HB7.out.trans (b8.mono HB7.out.size))
  have HL38 := Lib.hid (HL37.out.up b8 (Nat.le_refl _)); have HL48 := Lib.hid (HL47.out.up b8 (Nat.le_refl _))
  clear b8 HL17 HL27 HL37 HL47
  go_wp2_with fail
  refine (same05_any s3 m3 p3 L3 s4 p4 L4 w8 HL38.out HL48.out (by omega) (HK3.out.trans HK4.out.symm)).mono ?_
  rintro e w9 ⟨rfl, b9⟩
  have HB9 := Lib.hid (HB8.out.trans (b9.mono HB8.out.size))
  go_wp2_with fail
  go_ret
  exact ⟨rfl, HB9.out⟩
end Go.Proofs.YtfehgkpmjnmpeaaGreatDoor
