/-
  Stores: the walk of the statements' light (data of at most 2^40 bytes).
-/
import Derived.Test.YtfehgkpmjnmpeaaDoorStsA
namespace Go.Proofs.YtfehgkpmjnmpeaaDoor
open Go.RowKit

set_option maxRecDepth 100000 in
set_option maxHeartbeats 1000000 in
theorem lightS_any (sp : Option Addr) (n cap : Nat) (l : List Bl) (w : World) (hl : BlsIn w w.heap.size sp n cap l) (hn : n ≤ 9223372036854775807) (hd40 : ∀ x ∈ l, x.n ≤ 1099511627776) :
    Calls Tryd.prog 7 #[.slice sp n cap] w fun e w' => ∃ b, e = .returned (.bool b) ∧ (b = true → n ≤ 300) ∧ Below w.heap.size w w' := by
  have HL := Lib.hid hl; have HD := Lib.hid hd40
  clear hl hd40
  by_cases h300 : n ≤ 300
  · have hd : decide ((n : Int) > 300) = false := by simp; omega
    go_enter Tryd.func7, Tryd.ntmps7
    go_wp2_with fail
    go_loopw [3, 4] (fun s i wr => ∃ (k t : Nat), s = .int .i64 t ∧ i = .int .i64 k ∧ k ≤ n ∧ t ≤ 300000 ∧ Hid (Below w.heap.size w wr)) (fun _ i _ => n - (intOf i).toNat)
    case atStart => exact ⟨0, 0, rfl, rfl, Nat.zero_le _, by omega, Below.refl _ _⟩
    case round =>
      obtain ⟨k, t, rfl, rfl, hk, ht, HBE⟩ := hrel
      by_cases hlt : k < n
      · have hd : decide ((k : Int) < (n : Int)) = true := by simp; omega
        obtain ⟨b, off, rfl, hbB, hcap, hr⟩ := HL.out.cells (by omega)
        obtain ⟨y, hy⟩ : ∃ y, l[k]? = some y := ⟨l[k]'(by have := HL.out.len; omega), List.getElem?_eq_getElem _⟩
        have HYM := Lib.hid (List.mem_of_getElem? hy)
        have hy4 := rngB_s (range_belowG (hr k y hy) HBE.out hbB) (HL.out.ok y HYM.out)
        have p1 : (0 : Int) ≤ (k : Int) := by omega
        have p2 : (k : Int) < (n : Int) := by omega
        have hyn := HD.out y HYM.out
        clear hr hy
        by_cases hbg : 300000 < y.n
        · have hb1 : (300000 : Int) < (y.n : Int) := by omega
          have hb2 : ¬ (y.n : Int) ≤ 300000 := by omega
          by_cases hov : 300000 < t + 300000
          · have h2 : (300000 : Int) < (t : Int) + 300000 := by omega
            have h3 : decide ((300000 : Int) < (t : Int) + 300000) = true := by simpa using h2
            have h4 : decide ((t : Int) + 300000 > 300000) = true := h3
            go_wp2_with fail
            go_ret
            exact ⟨.inl rfl, HBE.out⟩
          · have h2 : ¬ (300000 : Int) < (t : Int) + 300000 := by omega
            have h3 : decide ((300000 : Int) < (t : Int) + 300000) = false := by simpa using h2
            have h4 : decide ((t : Int) + 300000 > 300000) = false := h3
            go_wp2_with fail
            go_roundw
            case rel => exact ⟨k + 1, t + 300000, by go_num, by go_num, by omega, by omega, HBE.out⟩
            case measure => simp [intOf]; omega
        · have hb1 : ¬ (300000 : Int) < (y.n : Int) := by omega
          have hb2 : (y.n : Int) ≤ 300000 := by omega
          by_cases hov : 300000 < t + y.n
          · have h2 : (300000 : Int) < (t : Int) + (y.n : Int) := by omega
            have h3 : decide ((300000 : Int) < (t : Int) + (y.n : Int)) = true := by simpa using h2
            have h4 : decide ((t : Int) + (y.n : Int) > 300000) = true := h3
            go_wp2_with fail
            go_ret
            exact ⟨.inl rfl, HBE.out⟩
          · have h2 : ¬ (300000 : Int) < (t : Int) + (y.n : Int) := by omega
            have h3 : decide ((300000 : Int) < (t : Int) + (y.n : Int)) = false := by simpa using h2
            have h4 : decide ((t : Int) + (y.n : Int) > 300000) = false := h3
            go_wp2_with fail
            go_roundw
            case rel => exact ⟨k + 1, t + y.n, by go_num, by go_num, by omega, by omega, HBE.out⟩
            case measure => simp [intOf]; omega
      · obtain rfl : k = n := by omega
        have hd : decide ((k : Int) < (k : Int)) = false := by simp
        go_wp2_with fail
        go_ret
        first | exact ⟨true, rfl, fun _ => h300, HBE.out⟩ | exact ⟨.inr rfl, HBE.out⟩
  · have hd : decide ((n : Int) > 300) = true := by simp; omega
    go_enter Tryd.func7, Tryd.ntmps7
    go_wp2_with fail
    go_ret
    exact ⟨false, rfl, fun h => (by cases h), Below.refl _ _⟩
end Go.Proofs.YtfehgkpmjnmpeaaDoor
