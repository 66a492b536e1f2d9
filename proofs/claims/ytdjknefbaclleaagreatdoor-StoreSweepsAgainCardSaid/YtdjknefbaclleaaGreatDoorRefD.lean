/-
  The walks of the reference's Leaf and Node (conditions: the arguments read as lists of bytes).
-/
import Derived.Test.YtdjknefbaclleaaGreatDoorGb
import Derived.Test.YtdjknefbaclleaaGreatDoorGa
namespace Go.Proofs.YtdjknefbaclleaaGreatDoor
open Go.RowKit

/-- a literal of one byte: a new block, its value behind a name -/
theorem wpList_build1 {P : Program} {w : World} {ops : Array Oper} {rest : List Oper} {o : Oper} {a : Act} {Q : Exit → Act → World → Prop} (hgd : o.guard = none) (t e : TypeId) (c : Int)
    (ho : o.op = .buildSlice t 1 #[(0, .const (.int .u8 c))]) (hrun : ∀ w, (Instr.buildSlice t 1 #[(0, .int .u8 c)]).run P w = .ok (.slice (some ⟨w.heap.size, 0, none⟩) 1 1) (w.alloc (.cells #[.int .u8 c] e)))
    (h : ∀ v0 w0, Hid (v0 = .slice (some ⟨w.heap.size, 0, none⟩) 1 1) → Hid (w0 = w.alloc (.cells #[.int .u8 c] e)) → wpList P ops Q rest (a.put o.dst v0) w0) : wpList P ops Q (o :: rest) a w := by
  refine wpList_plain hgd fun K hK => ?_
  have hk := hK _ _ (h _ _ rfl rfl)
  have hr := hrun w
  unfold Oper.wp execOp
  simp only [ho]
  simp [Act.eval, hr]
  exact hk
theorem own_made1 (w : World) (base : Nat) (e : TypeId) (c : Int) (hb : base ≤ w.heap.size) : (w.alloc (.cells #[.int .u8 c] e)).ownsRow base e 1 (.slice (some ⟨w.heap.size, 0, none⟩) 1 1) 1 ([c].map (Value.int .u8)) :=
  ⟨by simp, .inr ⟨w.heap.size, 1, _, rfl, hb, heap_alloc_new w _, Nat.le_refl _, by unfold maxLen; omega, rfl, by simp⟩⟩
end Go.Proofs.YtdjknefbaclleaaGreatDoor
