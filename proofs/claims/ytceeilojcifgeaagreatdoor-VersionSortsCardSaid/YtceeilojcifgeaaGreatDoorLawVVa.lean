/-
  VersionValid: the walk of the law.
-/
import Derived.Test.YtceeilojcifgeaaGreatDoorGe
import Derived.Test.YtceeilojcifgeaaGreatDoorVerT
import Derived.Test.YtceeilojcifgeaaGreatDoorLawVNu
namespace Go.Proofs.YtceeilojcifgeaaGreatDoor
open Go.RowKit

theorem sch_val (n : Int) : ∃ s : Int, (wrap64 (n.tmod 3 + 3)).tmod 3 + 1 = s ∧ (s = 1 ∨ s = 2 ∨ s = 3) := by
  have h1 : n.tmod 3 < 3 := Int.tmod_lt_of_pos _ (by omega)
  have h2 : -3 < n.tmod 3 := by have := Int.lt_tmod_of_pos n (b := 3) (by omega); omega
  have h3 : wrap64 (n.tmod 3 + 3) = n.tmod 3 + 3 := by unfold wrap64; omega
  rw [h3, Int.tmod_eq_emod_of_nonneg (by omega)]
  exact ⟨_, rfl, by omega⟩
/-- the scheme of a number -/
def schN (n : Int) : Int := 1 + (wrap64 (n.tmod 3 + 3)).tmod 3
theorem schN_rng (n : Int) : schN n = 1 ∨ schN n = 2 ∨ schN n = 3 := by
  obtain ⟨s, h1, h2⟩ := sch_val n
  unfold schN; omega
set_option maxRecDepth 100000 in
set_option maxHeartbeats 400000 in
theorem scheme_any (n : Int) (w : World) :
    Calls Tryz.prog 7 #[.int .i64 n] w fun e w' => e = .returned (.int .i64 (schN n)) ∧ w = w' := by
  have hr := schN_rng n
  have HE : Hid (schN n = 1 + (wrap64 (n.tmod 3 + 3)).tmod 3) := rfl
  obtain ⟨s, hs⟩ : ∃ s, (wrap64 (n.tmod 3 + 3)).tmod 3 = s := ⟨_, rfl⟩
  have HS := Lib.hid hs
  have hsr : 0 ≤ s ∧ s ≤ 2 := by rw [HE.out, hs] at hr; omega
  clear hr
  go_enter Tryz.func7, Tryz.ntmps7
  go_wp2_with fail
  go_ret
  exact ⟨by rw [HE.out, HS.out]; rfl, rfl⟩
theorem bs_eq (s : ByteArray) : ∃ l, s = bs l := ⟨s.data.toList, (bs_of s).symm⟩
end Go.Proofs.YtceeilojcifgeaaGreatDoor
