/-
  The walks of the reference's Literal and of pattern.Valid: for every string.
-/
import Derived.Test.YtmafefdchglpbaaDoorPatU
import Derived.Test.YtmafefdchglpbaaDoorPatR
namespace Go.Proofs.YtmafefdchglpbaaDoor
open Go.RowKit

theorem u8_ne {c d : UInt8} (h : ¬ c = d) : ((c.toNat : Int) == (d.toNat : Int)) = false := by
  rw [beq_eq_false_iff_ne]; intro e; apply h; apply UInt8.toNat_inj.1; omega
def validB (p : ByteArray) : Bool := (patL p.data.toList).isSome
set_option maxHeartbeats 1000000 in
theorem Valid_any (p : ByteArray) (w : World) :
    Calls Tryd.prog 31 #[.string p] w fun e w' => e = .returned (.bool (validB p)) ∧ Below w.heap.size w w' := by
  have hR : Calls Tryd.prog 53 #[.string p] w fun e w' => ∃ v, e = .returned (.tuple #[v, .bool (validB p)]) ∧ Below w.heap.size w w' := (read_any p w).mono fun e w' h => by
    unfold ReadRes at h
    unfold validB
    cases hp : patL p.data.toList with
    | none => rw [hp] at h; exact ⟨_, h.1, h.2⟩
    | some ps => rw [hp] at h; obtain ⟨sp, cap, he, _, hb⟩ := h; exact ⟨_, he, hb⟩
  have HR := Lib.hid hR
  clear hR
  obtain ⟨vb, hvb⟩ : ∃ b, validB p = b := ⟨_, rfl⟩
  rw [hvb] at HR ⊢
  clear hvb
  go_enter Tryd.func31, Tryd.ntmps31
  go_wp2_with fail
  refine HR.out.mono ?_
  rintro e w1 ⟨v, rfl, b1⟩
  go_wp2_with fail
  go_ret
  exact ⟨rfl, b1⟩
end Go.Proofs.YtmafefdchglpbaaDoor
