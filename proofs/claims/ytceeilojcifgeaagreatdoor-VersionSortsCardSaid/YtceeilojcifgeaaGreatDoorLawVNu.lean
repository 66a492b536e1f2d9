/-
  VersionNumbers: the walk of the law.
-/
import Derived.Test.YtceeilojcifgeaaGreatDoorVerT
import Derived.Test.YtceeilojcifgeaaGreatDoorVerU
namespace Go.Proofs.YtceeilojcifgeaaGreatDoor
open Go.RowKit

/-- bytes that came in -/
structure BytA (W : World) (sp : Option Addr) (n cap : Nat) (l : BL) : Prop where
  len : l.length = n
  cells : 0 < n → ∃ b off, sp = some ⟨b, off, none⟩ ∧ b < W.heap.size ∧ n ≤ cap ∧ ∀ i, ∀ h : i < l.length, W.cell? ⟨b, off + i, none⟩ = some (.int .u8 (l[i].toNat : Int))
  short : n ≤ 9223372036854775807
theorem bs_app (a b : BL) : bs a ++ bs b = bs (a ++ b) := by
  rw [← bs_of (bs a ++ bs b)]; simp [ByteArray.data_append, bs_data]
def dg10 (c : UInt8) : UInt8 := UInt8.ofNat (48 + c.toNat % 10)
theorem dg10_nat (c : UInt8) : ((dg10 c).toNat : Int) = 48 + (c.toNat : Int) % 10 := by
  unfold dg10; rw [UInt8.toNat_ofNat']; omega
theorem dg10_dig (c : UInt8) : isD (dg10 c) = true := by
  rw [isD_iff]; have := dg10_nat c; omega
theorem convOne (wr : World) (c : UInt8) : (convert 50 9 (.slice (some ⟨wr.heap.size, 0, none⟩) 1 1)).run Tryz.prog (wr.alloc (.cells #[.int .u8 (c.toNat : Int)] 5)) = .ok (.string (bs [c])) (wr.alloc (.cells #[.int .u8 (c.toNat : Int)] 5)) := by
  refine run_convert_bytes_back _ 50 9 5 _ 1 [c] Tryz.underlying50 Tryz.underlying5 Tryz.underlying9 (fun j hj => ?_)
  have hj0 : j = 0 := by simp at hj; omega
  subst hj0
  rw [Addr.add_mid, cell_of_row _ wr.heap.size (0 + 0) _ _ (0, 0) (heap_alloc_new wr _)]; rfl
theorem nextB {w w1 w2 : World} (h : Below w.heap.size w w1) (h2 : Below w1.heap.size w1 w2) : Below w.heap.size w w2 := h.trans (h2.mono h.size)
theorem cmpCall (s : Int) (a b : BL) (A C : ByteArray) (r : Int × Int) (hA : bs a = A) (hC : bs b = C) (h : cmpR s a b = r) (w : World) :
    Calls Tryz.prog 8 #[.int .i64 s, .string A, .string C] w fun e w' => e = .returned (.tuple #[.int .i64 r.1, .int .i64 r.2]) ∧ Below w.heap.size w w' := by
  have := compare_anyV s a b w
  rw [h, hA, hC] at this; exact this
end Go.Proofs.YtceeilojcifgeaaGreatDoor
