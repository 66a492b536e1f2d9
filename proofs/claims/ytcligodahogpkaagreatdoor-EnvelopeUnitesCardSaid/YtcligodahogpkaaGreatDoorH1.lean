/-
  The walks of strings.IndexByte, strings.Index, strings.Count, strings.genSplit and strings.Split at a separator of one byte (condition: a string of at most 10000000 bytes).
-/
import Derived.Test.YtcligodahogpkaaGreatDoorChecked
import Derived.Lib.SplitLaws
import Derived.Lib.IndexBytes
import Derived.Below
import Derived.Deep.OwnRows
import Derived.IntWalk
import Derived.Test.YtcligodahogpkaaGreatDoorH0
import Derived.OwnWalk
import Derived.Laws.Entries
import Derived.Laws.BytesString
set_option maxRecDepth 100000
set_option maxHeartbeats 8000000
namespace Go.Proofs.YtcligodahogpkaaGreatDoor
open Go.RowKit
structure BSrc (w : World) (B : Nat) (sp : Option Addr) (n cap : Nat) (l : List UInt8) : Prop where
 len : l.length = n
 cells : 0 < n → ∃ bb off, sp = some ⟨bb, off, none⟩ ∧ bb < B ∧ n ≤ cap ∧ ∀ j (hj : j < l.length), w.cell? ⟨bb, off + j, none⟩ = some (.int .u8 (l[j].toNat : Int))
theorem BSrc.below {w w' : World} {B B' : Nat} {sp : Option Addr} {n cap : Nat} {l : List UInt8} (h : BSrc w B sp n cap l) (hb : Below B' w w') (hB : B ≤ B') : BSrc w' B sp n cap l :=
 ⟨h.len, fun hn => by
  obtain ⟨bb, off, e, hlt, hc, hcell⟩ := h.cells hn
  exact ⟨bb, off, e, hlt, hc, fun j hj => (hb.cell (p := ⟨bb, off + j, none⟩) (by show bb < B'; omega)).trans (hcell j hj)⟩⟩
theorem hZ {w : World} {B : Nat} {sp : Option Addr} {n cap c2 : Nat} {l : List UInt8} (h : BSrc w B sp n cap l) : (convert 22 9 (.slice sp n c2)).run Tryz.prog w = .ok (.string ⟨l.toArray⟩) w := by
 by_cases hn : n = 0
 ·have hl : l = [] := List.eq_nil_of_length_eq_zero (by rw [h.len]; exact hn)
  subst hn hl
  cases sp with
  | none =>
    rw [run_convert_bytes_string w 22 9 5 none 0 c2 Tryz.underlying22 Tryz.underlying5 Tryz.underlying9]
    rfl
  | some ad => exact run_convert_bytes_back w 22 9 5 ad c2 [] Tryz.underlying22 Tryz.underlying5 Tryz.underlying9 (fun j hj => absurd hj (by simp))
 ·obtain ⟨bb, off, rfl, _, _, hc⟩ := h.cells (by omega)
  have := run_convert_bytes_back w 22 9 5 ⟨bb, off, none⟩ c2 l Tryz.underlying22 Tryz.underlying5 Tryz.underlying9 (fun j hj => by rw [Addr.add_mid]; exact hc j hj)
  rwa [h.len] at this
end Go.Proofs.YtcligodahogpkaaGreatDoor
