/-
  One-time signatures: the walk of OnetimeRecovers (conditions: the arguments read as a half, a number and a digest; the table of constants reads as it is laid).
-/
import Derived.Test.YtcligodahogpkaaGreatDoorOneU
import Derived.Test.YtcligodahogpkaaGreatDoorOneT
set_option maxRecDepth 100000
set_option maxHeartbeats 8000000
namespace Go.Proofs.YtcligodahogpkaaGreatDoor
open Go.RowKit Go.Proofs.YtcligodahogpkaaGreatDoor.One
theorem eqlHn {X : List Int} (hX : H16 X) (w : World) : (Op.equalIn 10000 54 (.agg (X.map (Value.int .u8)).toArray) (.agg (X.map (Value.int .u8)).toArray)).run Tryz.prog w = .ok true w := by
 have h := eqlH hX w
 unfold hvA at h
 exact h
theorem GQ {a : Act} {o : Oper} {w : World} {x y : Operand} {X : List Int} (hX : H16 X) (ho : o.op = .binOp .neq 54 x y 54) (hx : a.eval x = .agg (X.map (Value.int .u8)).toArray) (hy : a.eval y = .agg (X.map (Value.int .u8)).toArray) : (execOp a.eval o).run Tryz.prog w = .ok (Next.value (.bool false)) w := by
 have hq := eqlHn hX w
 generalize (X.map (Value.int .u8)).toArray = A at *
 unfold execOp
 simp only [ho, hx, hy]
 go_simp
theorem OE (x : List Int) (leaf : Int) (d : List Int) {i : Nat} (hi : i < 68) : (fA x leaf d).getD i [] = uU x leaf d i := by
 unfold fA; simp [List.getD_eq_getElem?_getD, hi]
theorem sV {x : List Int} (leaf : Int) {d : List Int} (hd : D32 d) : wW leaf d (fA x leaf d) = EV x leaf := by
 unfold wW EV
 congr 1
 refine List.map_congr_left fun i hi => ?_
 have hi2 : i < 68 := List.mem_range.1 hi
 have h := MC hd hi2
 unfold sW rZ
 rw [OE x leaf d hi2]
 exact vT leaf i 0 _ 3 (by omega) h.1 h.2 (by omega)
end Go.Proofs.YtcligodahogpkaaGreatDoor
