/-
  The walk of the statements' own check awake (for every world).
-/
import Derived.Test.YtmafefdchglpbaaDoorDocF
import Derived.Test.YtmafefdchglpbaaDoorDocN
namespace Go.Proofs.YtmafefdchglpbaaDoor
open Go.RowKit

theorem awake_enc : enc [[⟨#[120]⟩, ⟨#[]⟩]] = (0, [120, 32, 126, 10]) := by decide +kernel
theorem awake_name : nmB [97, 45, 49] = true := by decide +kernel
theorem awake_lines (w w2 : World) (t t2 : TypeId) (hw : w2 = (w.alloc (.cells #[.string ⟨#[120]⟩, .string ⟨#[]⟩] t)).alloc (.cells #[.slice (some ⟨w.heap.size, 0, none⟩) 2 2] t2)) :
    LinesIn w2 w2.heap.size (some ⟨w.heap.size + 1, 0, none⟩) 1 [⟨some ⟨w.heap.size, 0, none⟩, 2, 2, [⟨#[120]⟩, ⟨#[]⟩]⟩] := by
  have h1 : w2.heap[w.heap.size]? = some (.cells #[.string ⟨#[120]⟩, .string ⟨#[]⟩] t (0, 0)) := by rw [hw]; exact heap_alloc2_old _ _ _
  have h2 : w2.heap[w.heap.size + 1]? = some (.cells #[.slice (some ⟨w.heap.size, 0, none⟩) 2 2] t2 (0, 0)) := by rw [hw]; exact heap_alloc2_new _ _ _
  have l1 := (Array.getElem?_eq_some_iff.1 h1).1
  have l2 := (Array.getElem?_eq_some_iff.1 h2).1
  refine ⟨rfl, fun _ => ⟨_, 0, rfl, l2, fun j hj => ?_⟩, fun q hq => ?_⟩
  · obtain rfl : j = 0 := by simpa using hj
    rw [cell_of_row w2 (w.heap.size + 1) (0 + 0) _ t2 (0, 0) h2]; rfl
  · obtain rfl := List.mem_singleton.1 hq
    refine ⟨rfl, fun _ => ⟨_, 0, rfl, l1, fun j hj => ?_⟩⟩
    rw [cell_of_row w2 w.heap.size (0 + j) _ t (0, 0) h1]
    match j, hj with
    | 0, _ => rfl
    | 1, _ => rfl

set_option maxRecDepth 100000 in
set_option maxHeartbeats 1000000 in
theorem awake_any (w : World) :
    Calls Tryd.prog 20 #[] w fun e w' => e = .returned (.bool true) ∧ Below w.heap.size w w' := by
  have HN := Lib.hid awake_name
  have HE := Lib.hid awake_enc
  go_enter Tryd.func20, Tryd.ntmps20
  go_wp2_with fail
  generalize hw2 : World.alloc (World.alloc w _) _ = w2
  have hl := awake_lines w w2 _ _ hw2.symm
  have hb : Below w.heap.size w w2 := by rw [← hw2]; exact ((Below.refl _ _).alloc (Nat.le_refl _) _).alloc (by simp) _
  have HL := Lib.hid hl; have HB := Lib.hid hb; clear hw2 hl hb
  refine (Encode_any _ 1 1 _ w2 HL.out (by omega) (by intro q hq; rw [List.mem_singleton.1 hq]; show (2 : Nat) ≤ 9223372036854775807; omega)).mono ?_
  rintro e w3 ⟨v, rfl, hown, hb3⟩
  have he : enc (wordsOf [(⟨some ⟨w.heap.size, 0, none⟩, 2, 2, [⟨#[120]⟩, ⟨#[]⟩]⟩ : Ln)]) = (0, [120, 32, 126, 10]) := HE.out
  rw [he] at hown ⊢
  have hcv := run_string_own hown.out
  clear he hown
  go_wp2_with (go_at_call 46; refine (Name_any _ _ (by decide)).mono ?_; rintro e w' ⟨rfl, rfl⟩; rw [HN.out])
  go_ret
  exact ⟨rfl, HB.out.trans (hb3.mono HB.out.size)⟩
end Go.Proofs.YtmafefdchglpbaaDoor
