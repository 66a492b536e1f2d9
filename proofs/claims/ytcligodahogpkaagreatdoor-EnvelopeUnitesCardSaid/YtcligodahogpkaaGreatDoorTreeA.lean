/-
  The walks of digest.leftLeaves and digest.Tree (conditions: the list has at most 1000000 elements and reads as lists of 32 bytes; the table of constants reads as it is laid).
-/
import Derived.Test.YtcligodahogpkaaGreatDoorGm
import Derived.Deep.RegionHeld3
set_option maxRecDepth 100000
set_option maxHeartbeats 8000000
namespace Go.Proofs.YtcligodahogpkaaGreatDoor
open Go.RowKit
structure DigsIn (w : World) (B : Nat) (da : Option Addr) (n cap : Nat) (l : List (List Int)) : Prop where
 len : l.length = n
 digs : Digs l
 cells : 0 < n → ∃ b off, da = some ⟨b, off, none⟩ ∧ b < B ∧ n ≤ cap ∧ ∀ i, i < n → w.rangeAt b (off + i * 32) ((l.getD i []).map (Value.int .u8))
theorem oT {w w' : World} {b o B : Nat} {cs : List Value} (h : w.rangeAt b o cs) (hb : Below B w w') (hlt : b < B) : w'.rangeAt b o cs := fun j v hv => (hb.cell (p := ⟨b, o + j, none⟩) hlt).trans (h j v hv)
theorem DigsIn.below {w w' : World} {B B' : Nat} {da : Option Addr} {n cap : Nat} {l : List (List Int)} (h : DigsIn w B da n cap l) (hb : Below B' w w') (hB : B ≤ B') : DigsIn w' B' da n cap l :=
 ⟨h.len, h.digs, fun hn => by
  obtain ⟨b, off, e, hlt, hc, hr⟩ := h.cells hn
  exact ⟨b, off, e, by omega, hc, fun i hi => oT (hr i hi) hb (by omega)⟩⟩
def dv (x : List Int) : Array Value := (x.map (Value.int .u8)).toArray
end Go.Proofs.YtcligodahogpkaaGreatDoor
