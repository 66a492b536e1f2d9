/-
  One-time signatures: the walk of OnetimeRecovers (conditions: the arguments read as a half, a number and a digest; the table of constants reads as it is laid).
-/
import Derived.Test.YtbfgkbcpkldofaaDoorOneU
import Derived.Test.YtbfgkbcpkldofaaDoorOneT
namespace Go.Proofs.YtbfgkbcpkldofaaDoor
open Go.RowKit Go.Proofs.YtbfgkbcpkldofaaDoor.One

theorem eqlHm {X : List Int} (hX : H16 X) (w : World) : (Op.equalIn 10000 23 (.agg (X.map (Value.int .u8)).toArray) (.agg (hvA X))).run Tryd.prog w = .ok true w := by
  have h := eqlH hX w
  unfold hvA at h ⊢
  exact h
theorem eqlHn {X : List Int} (hX : H16 X) (w : World) : (Op.equalIn 10000 23 (.agg (X.map (Value.int .u8)).toArray) (.agg (X.map (Value.int .u8)).toArray)).run Tryd.prog w = .ok true w := by
  have h := eqlH hX w
  unfold hvA at h
  exact h
theorem exec_neq {a : Act} {o : Oper} {w : World} {x y : Operand} {X : List Int} (hX : H16 X) (ho : o.op = .binOp .neq 23 x y 23) (hx : a.eval x = .agg (X.map (Value.int .u8)).toArray) (hy : a.eval y = .agg (X.map (Value.int .u8)).toArray) : (execOp a.eval o).run Tryd.prog w = .ok (Next.value (.bool false)) w := by
  have hq := eqlHn hX w
  generalize (X.map (Value.int .u8)).toArray = A at *
  unfold execOp
  simp only [ho, hx, hy]
  go_simp
theorem sig_at (x : List Int) (leaf : Int) (d : List Int) {i : Nat} (hi : i < 68) : (sigB x leaf d).getD i [] = sigE x leaf d i := by
  unfold sigB; simp [List.getD_eq_getElem?_getD, hi]
theorem recover_sign {x : List Int} (leaf : Int) {d : List Int} (hd : D32 d) : recB leaf d (sigB x leaf d) = pubB x leaf := by
  unfold recB pubB
  congr 1
  refine List.map_congr_left fun i hi => ?_
  have hi2 : i < 68 := List.mem_range.1 hi
  have h := digs_at hd hi2
  unfold recE endE
  rw [sig_at x leaf d hi2]
  exact climb_trans leaf i 0 _ 3 (by omega) h.1 h.2 (by omega)
end Go.Proofs.YtbfgkbcpkldofaaDoor
