/-
  VersionValid: the walk of the law.
-/
import Derived.Test.YtceeilojcifgeaaDoorVeqC
import Derived.Test.YtceeilojcifgeaaDoorVerT
import Derived.Test.YtceeilojcifgeaaDoorLawVNu
namespace Go.Proofs.YtceeilojcifgeaaDoor
open Go.RowKit

theorem sch_val (n : Int) : ∃ s : Int, (wrap64 (n.tmod 3 + 3)).tmod 3 + 1 = s ∧ (s = 1 ∨ s = 2 ∨ s = 3) := by
  have h1 : n.tmod 3 < 3 := Int.tmod_lt_of_pos _ (by omega)
  have h2 : -3 < n.tmod 3 := by have := Int.lt_tmod_of_pos n (b := 3) (by omega); omega
  have h3 : wrap64 (n.tmod 3 + 3) = n.tmod 3 + 3 := by unfold wrap64; omega
  rw [h3, Int.tmod_eq_emod_of_nonneg (by omega)]
  exact ⟨_, rfl, by omega⟩
/-- the scheme of a number -/
def schN (n : Int) : Int := 1 + (wrap64 (n.tmod 3 + 3)).tmod 3
theorem schN_rng (n : Int) : schN n = 1 ∨ schN n = 2 ∨ schN n = 3 := by
  obtain ⟨s, h1, h2⟩ := sch_val n
  unfold schN; omega
set_option maxRecDepth 100000 in
set_option maxHeartbeats 400000 in
theorem scheme_any (n : Int) (w : World) :
    Calls Tryd.prog 10 #[.int .i64 n] w fun e w' => e = .returned (.int .i64 (schN n)) ∧ w = w' := by
  have hr := schN_rng n
  have HE : Hid (schN n = 1 + (wrap64 (n.tmod 3 + 3)).tmod 3) := rfl
  obtain ⟨s, hs⟩ : ∃ s, (wrap64 (n.tmod 3 + 3)).tmod 3 = s := ⟨_, rfl⟩
  have HS := Lib.hid hs
  have hsr : 0 ≤ s ∧ s ≤ 2 := by rw [HE.out, hs] at hr; omega
  clear hr
  go_enter Tryd.func10, Tryd.ntmps10
  go_wp2_with fail
  go_ret
  exact ⟨by rw [HE.out, HS.out]; rfl, rfl⟩
theorem bs_eq (s : ByteArray) : ∃ l, s = bs l := ⟨s.data.toList, (bs_of s).symm⟩
set_option maxRecDepth 100000 in
set_option maxHeartbeats 1000000 in
theorem versionValid_any (n : Int) (s : ByteArray) (w : World) (hn : -9223372036854775808 ≤ n ∧ n ≤ 9223372036854775807) :
    Calls Tryd.prog 3 #[.int .i64 n, .string s] w fun e w' => e = .returned (.bool true) ∧ Below w.heap.size w w' := by
  obtain ⟨l, rfl⟩ := bs_eq s
  have hsz := bs_size l
  by_cases hl : l.length ≤ 300
  · have hd : decide (((bs l).size : Int) > 300) = false := by simp; omega
    have HA := Lib.hid (fun w => awake6_any w)
    have HV := Lib.hid (fun s w => valid_any s l w)
    have HR := Lib.hid (fun s w => rValid_any s l w (by omega))
    have HE := Lib.hid (fun s => valB_eq s l)
    have HSC := Lib.hid (fun w => scheme_any n w)
    have HV1 := Lib.hid (fun w => HV.out n w); have HR1 := Lib.hid (fun w => HR.out n w)
    have HV2 := Lib.hid (fun w => HV.out (schN n) w); have HR2 := Lib.hid (fun w => HR.out (schN n) w)
    rw [HE.out] at HV1 HV2
    generalize rValB n l = b1 at *
    generalize rValB (schN n) l = b2 at *
    generalize schN n = sc at *
    clear HV HR HE hsz hl
    generalize bs l = sl at *
    have main : ∀ (x y : Bool), b1 = x → b2 = y → Calls Tryd.prog 3 #[.int .i64 n, .string sl] w fun e w' => e = .returned (.bool true) ∧ Below w.heap.size w w' := by
      intro x y h1 h2
      subst h1 h2
      cases b1
      all_goals
        cases b2
        all_goals
          go_enter Tryd.func3, Tryd.ntmps3
          go_wp2_with fail
          refine (HA.out _).mono ?_
          rintro e w1 ⟨rfl, b1⟩
          have B1 := Lib.hid b1; clear b1
          go_wp2_with fail
          refine (HV1.out _).mono ?_
          rintro e w2 ⟨rfl, b2⟩
          have B2 := Lib.hid b2; clear b2
          go_wp2_with fail
          refine (HR1.out _).mono ?_
          rintro e w3 ⟨rfl, b3⟩
          have B3 := Lib.hid b3; clear b3
          go_wp2_with fail
          refine (HSC.out _).mono ?_
          rintro e w' ⟨rfl, rfl⟩
          go_wp2_with fail
          refine (HV2.out _).mono ?_
          rintro e w4 ⟨rfl, b4⟩
          have B4 := Lib.hid b4; clear b4
          go_wp2_with fail
          refine (HSC.out _).mono ?_
          rintro e w' ⟨rfl, rfl⟩
          go_wp2_with fail
          refine (HR2.out _).mono ?_
          rintro e w5 ⟨rfl, b5⟩
          have B5 := Lib.hid b5; clear b5
          go_wp2_with fail
          go_ret
          exact ⟨rfl, nextB (nextB (nextB (nextB B1.out B2.out) B3.out) B4.out) B5.out⟩
    exact main b1 b2 rfl rfl
  · have hd : decide (((bs l).size : Int) > 300) = true := by simp; omega
    clear hsz
    generalize bs l = sl at *
    go_enter Tryd.func3, Tryd.ntmps3
    go_wp2_with fail
    go_ret
    exact ⟨rfl, Below.refl _ _⟩
end Go.Proofs.YtceeilojcifgeaaDoor
