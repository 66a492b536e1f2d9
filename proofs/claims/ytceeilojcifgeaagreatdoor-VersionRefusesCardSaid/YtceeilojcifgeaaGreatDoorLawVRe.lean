/-
  VersionRefuses: the walk of the law.
-/
import Derived.Test.YtceeilojcifgeaaGreatDoorLawVVa
import Derived.Test.YtceeilojcifgeaaGreatDoorVorF
namespace Go.Proofs.YtceeilojcifgeaaGreatDoor
open Go.RowKit

theorem cmpR_self (n : Int) (l : BL) : (cmpR n l l).2 = (keyR n l).2 := by
  unfold cmpR
  by_cases h : (keyR n l).2 = 0
  · rw [if_neg (by simp [h]), if_neg (by simp [h]), h]
  · rw [if_pos h]
theorem keyR_empty (n : Int) (l : BL) (h : (keyR n l).2 ≠ 0) : (keyR n l).1 = [] := by
  unfold keyR at h ⊢; split
  · rename_i hs; rw [if_pos hs] at h; split
    · rfl
    · rename_i hk; rw [hk] at h; exact absurd rfl h
  · rfl
set_option maxRecDepth 100000 in
set_option maxHeartbeats 1000000 in
theorem versionRefuses_any (n : Int) (s : ByteArray) (w : World) (hn : -9223372036854775808 ≤ n ∧ n ≤ 9223372036854775807) :
    Calls Tryz.prog 5 #[.int .i64 n, .string s] w fun e w' => e = .returned (.bool true) ∧ Below w.heap.size w w' := by
  obtain ⟨l, rfl⟩ := bs_eq s
  have hsz := bs_size l
  by_cases hl : l.length ≤ 300
  · have hd : decide (((bs l).size : Int) > 300) = false := by simp; omega
    have HA := Lib.hid (fun w => awake6_any w)
    have HK := Lib.hid (fun w => key_any n l w)
    have HC := Lib.hid (fun w => rCompare_any n l l w (by omega) (by omega))
    have h2 := cmpR_self n l
    have h3 := keyR_empty n l
    have hr := keyR_rng n l
    rw [h2] at HC
    clear h2
    generalize (cmpR n l l).1 = x at *
    have main : ∀ m k, (keyR n l).2 = m → (keyR n l).1 = k → (m = 0 ∨ (m = 1 ∧ k = []) ∨ (m = 14 ∧ k = [])) → Calls Tryz.prog 5 #[.int .i64 n, .string (bs l)] w fun e w' => e = .returned (.bool true) ∧ Below w.heap.size w w' := by
      intro m k hm hk hc
      rw [hm] at HC; rw [hm, hk] at HK
      clear hr h3 hsz hl hm hk
      generalize bs l = sl at *
      rcases hc with rfl | ⟨rfl, rfl⟩ | ⟨rfl, rfl⟩
      all_goals
        try rw [show bs [] = ByteArray.mk #[] from rfl] at HK
        try generalize bs k = sk at *
        go_enter Tryz.func5, Tryz.ntmps5
        go_wp2_with fail
        refine (HK.out _).mono ?_
        rintro e w1 ⟨rfl, b1⟩
        have B1 := Lib.hid b1; clear b1
        go_wp2_with fail
        refine (HC.out _).mono ?_
        rintro e w2 ⟨rfl, b2⟩
        have B2 := Lib.hid b2; clear b2
        go_wp2_with fail
        refine (HA.out _).mono ?_
        rintro e w3 ⟨rfl, b3⟩
        have B3 := Lib.hid b3; clear b3
        go_wp2_with fail
        go_ret
        exact ⟨rfl, nextB (nextB B1.out B2.out) B3.out⟩
    refine main _ _ rfl rfl ?_
    rcases hr with h | h | h
    · exact .inl h
    · exact .inr (.inl ⟨h, h3 (by rw [h]; decide)⟩)
    · exact .inr (.inr ⟨h, h3 (by rw [h]; decide)⟩)
  · have hd : decide (((bs l).size : Int) > 300) = true := by simp; omega
    clear hsz
    generalize bs l = sl at *
    go_enter Tryz.func5, Tryz.ntmps5
    go_wp2_with fail
    go_ret
    exact ⟨rfl, Below.refl _ _⟩
end Go.Proofs.YtceeilojcifgeaaGreatDoor
