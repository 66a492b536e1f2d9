/-
  One-time signatures: the walk of OnetimeRecovers (conditions: the arguments read as a half, a number and a digest; the table of constants reads as it is laid).
-/
import Derived.Test.YtjeiiabpdoelpaaGreatDoorOneU
import Derived.Test.YtjeiiabpdoelpaaGreatDoorOneT
namespace Go.Proofs.YtjeiiabpdoelpaaGreatDoor
open Go.RowKit Go.Proofs.YtjeiiabpdoelpaaGreatDoor.One
theorem eqlHn {X : List Int} (hX : H16 X) (w : World) : (Op.equalIn 10000 37 (.agg (X.map (Value.int .u8)).toArray) (.agg (X.map (Value.int .u8)).toArray)).run Tryz.prog w = .ok true w := by
 have h := eqlH hX w
 unfold hvA at h
 exact h
theorem EW {a : Act} {o : Oper} {w : World} {x y : Operand} {X : List Int} (hX : H16 X) (ho : o.op = .binOp .neq 37 x y 37) (hx : a.eval x = .agg (X.map (Value.int .u8)).toArray) (hy : a.eval y = .agg (X.map (Value.int .u8)).toArray) : (execOp a.eval o).run Tryz.prog w = .ok (Next.value (.bool false)) w := by
 have hq := eqlHn hX w
 generalize (X.map (Value.int .u8)).toArray = A at *
 unfold execOp
 simp only [ho, hx, hy]
 go_simp
theorem ME (x : List Int) (leaf : Int) (d : List Int) {i : Nat} (hi : i < 68) : (eK x leaf d).getD i [] = tQ x leaf d i := by
 unfold eK; simp [List.getD_eq_getElem?_getD, hi]
theorem rP {x : List Int} (leaf : Int) {d : List Int} (hd : D32 d) : EB leaf d (eK x leaf d) = CU x leaf := by
 unfold EB CU
 congr 1
 refine List.map_congr_left fun i hi => ?_
 have hi2 : i < 68 := List.mem_range.1 hi
 have h := KG hd hi2
 unfold DZ qQ
 rw [ME x leaf d hi2]
 exact uT leaf i 0 _ 3 (by omega) h.1 h.2 (by omega)
end Go.Proofs.YtjeiiabpdoelpaaGreatDoor
