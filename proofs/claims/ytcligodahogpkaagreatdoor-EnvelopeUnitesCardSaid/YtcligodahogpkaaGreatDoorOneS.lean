/-
  One-time signatures: the walk of OnetimeSteps (conditions: the arguments read as halves, numbers and a list of halves; the table of constants reads as it is laid).
-/
import Derived.Test.YtcligodahogpkaaGreatDoorGp
set_option maxRecDepth 100000
set_option maxHeartbeats 8000000
namespace Go.Proofs.YtcligodahogpkaaGreatDoor
open Go.RowKit Go.Proofs.YtcligodahogpkaaGreatDoor.One
theorem HvsIn.more {w : World} {B B' : Nat} {da : Option Addr} {n cap : Nat} {l : List (List Int)} (h : HvsIn w B da n cap l) (hB : B ≤ B') : HvsIn w B' da n cap l :=
 ⟨h.len, h.ok, fun hn => by
  obtain ⟨b, off, e, hlt, hc, hr⟩ := h.cells hn
  exact ⟨b, off, e, by omega, hc, hr⟩⟩
theorem eqHE (X Y : List Int) (hX : X.length = 16) (hY : Y.length = 16) (w : World) :
 (Op.equalIn 10000 54 (.agg (hvA X)) (.agg (hvA Y))).run Tryz.prog w = .ok (decide (X = Y)) w := by
 have hc : Tryz.prog.cellsOf 5 = 1 := by kernel_rfl
 obtain ⟨i, hi⟩ : ∃ i, Tryz.prog.info? 5 = some i := Option.isSome_iff_exists.1 (by kernel_rfl)
 have h := run_equalIn_array (P := Tryz.prog) w 9999 (X.map (Value.int .u8)).toArray (Y.map (Value.int .u8)).toArray Tryz.underlying54 hi
 rw [hc] at h
 have e := yB 9998 X Y (List.range 16) w (fun j hj => by rw [hX, hY]; simpa using hj)
 have r := uS X Y (by omega)
 rw [hX] at r
 rw [r] at e
 rw [e] at h
 exact h
end Go.Proofs.YtcligodahogpkaaGreatDoor
