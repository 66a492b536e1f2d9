/-
  The walk of the statement DocumentDecodes: it returns true for all bytes.
-/
import Derived.Test.YtmafefdchglpbaaDoorDecG
namespace Go.Proofs.YtmafefdchglpbaaDoor
open Go.RowKit

set_option maxRecDepth 100000 in
set_option maxHeartbeats 1000000 in
theorem decodes_any (sp : Option Addr) (n cap : Nat) (l : List UInt8) (w : World) (hs : BSrc w w.heap.size sp n cap l) :
    Calls Tryd.prog 4 #[.slice sp n cap] w fun e w' => e = .returned (.bool true) ∧ Below w.heap.size w w' := by
  by_cases hbig : 300000 < n
  · have hd : decide ((n : Int) > 300000) = true := by simp; omega
    clear hs hbig
    go_enter Tryd.func4, Tryd.ntmps4
    go_wp2_with fail
    go_ret
    exact ⟨rfl, Below.refl _ _⟩
  have hd : decide ((n : Int) > 300000) = false := by simp; omega
  have HD := Lib.hid (Decode_any sp n cap l w hs)
  have HRD := Lib.hid (fun w1 (hb : Below w.heap.size w w1) => refDecode_any sp n cap l w1 (⟨hs.len, fun h => by obtain ⟨bb, off, e, h1, h2, h3⟩ := (hs.below hb (Nat.le_refl _)).cells h; exact ⟨bb, off, e, Nat.lt_of_lt_of_le h1 hb.size, h2, h3⟩⟩))
  obtain ⟨r, hr⟩ : ∃ r, decC ⟨l.toArray⟩ = r := ⟨_, rfl⟩
  rw [hr] at HD HRD
  obtain ⟨c, L⟩ := r
  have HA := Lib.hid (fun w => awake_any w)
  clear hr hs hbig
  go_enter Tryd.func4, Tryd.ntmps4
  go_wp2_with fail
  refine HD.out.mono ?_
  rintro e w1 ⟨sp1, cap1, la, hwa, rfl, o1, e1, b1⟩
  have HO1 := Lib.hid o1; have HE1 := Lib.hid e1; have HB1 := Lib.hid b1; have HWA := Lib.hid hwa
  clear o1 e1 b1 hwa
  go_wp2_with fail
  refine (HRD.out w1 HB1.out).mono ?_
  rintro e w2 ⟨sp2, cap2, lb, hwb, rfl, o2, e2, b2⟩
  have HO2 := Lib.hid o2; have HE2 := Lib.hid e2; have HB2 := Lib.hid b2; have HWB := Lib.hid hwb
  clear o2 e2 b2 hwb
  go_wp2_with fail
  refine (HA.out w2).mono ?_
  rintro e w3 ⟨rfl, b3⟩
  have HS : Hid (Calls Tryd.prog 21 #[.slice sp1 la.length cap1, .slice sp2 lb.length cap2] w3 fun e w' => e = .returned (.bool true) ∧ ∃ m, w' = w3.drewN m) :=
    sameLines_any sp1 sp2 cap1 cap2 w3.heap.size la lb w3 (lines_own (own_belowD (own_belowD HO1.out HB2.out) b3) (fun q hq => own_belowD (own_belowD (HE1.out q hq) HB2.out) b3)) (lines_own (own_belowD HO2.out b3) (fun q hq => own_belowD (HE2.out q hq) b3)) (by rw [HWA.out, HWB.out]) (own_le HO1.out) (fun q hq => own_le (HE1.out q hq))
  have HB3 := Lib.hid ((HB1.out.trans (HB2.out.mono HB1.out.size)).trans (b3.mono (HB1.out.trans (HB2.out.mono HB1.out.size)).size))
  clear b3
  go_wp2_with fail
  refine HS.out.mono ?_
  rintro e w4 ⟨rfl, m, rfl⟩
  go_wp2_with fail
  go_ret
  exact ⟨rfl, below_drewN HB3.out _⟩
end Go.Proofs.YtmafefdchglpbaaDoor
