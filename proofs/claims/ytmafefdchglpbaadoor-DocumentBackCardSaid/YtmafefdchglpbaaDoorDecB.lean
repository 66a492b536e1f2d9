/-
  The walk of document.readLine (condition: a string of at most ten million bytes).
-/
import Derived.Test.YtmafefdchglpbaaDoorDecA
namespace Go.Proofs.YtmafefdchglpbaaDoor
open Go.RowKit

theorem below_allocD (w : World) (o : Obj) : Below w.heap.size w (w.alloc o) := (Below.refl _ _).alloc (Nat.le_refl _) _
theorem own_monoD {w : World} {base base' : Nat} {e : TypeId} {size : Nat} {v : Value} {n : Nat} {xs : List Value} (h : w.ownsRow base e size v n xs) (hb : base' ≤ base) : w.ownsRow base' e size v n xs :=
  ⟨h.1, h.2.imp id fun ⟨g, cap, cur, h1, h2, h3⟩ => ⟨g, cap, cur, h1, Nat.le_trans hb h2, h3⟩⟩
theorem splitB_size (sep : ByteArray) : ∀ (k : Nat) (s : ByteArray), ∀ x ∈ Lib.splitB sep 0 k s, x.size ≤ s.size
  | 0, s, x, hx => by rw [Lib.splitB_zero, List.mem_singleton] at hx; subst hx; exact Nat.le_refl _
  | k + 1, s, x, hx => by
    unfold Lib.splitB at hx
    split at hx
    · rw [List.mem_singleton] at hx; subst hx; exact Nat.le_refl _
    · rcases List.mem_cons.1 hx with h | h
      · subst h; rw [ByteArray.size_extract]; omega
      · have := splitB_size sep k _ x h
        rw [ByteArray.size_extract] at this
        omega
theorem pcs_size (c : UInt8) (s : ByteArray) : ∀ x ∈ pcs c s, x.size ≤ s.size := splitB_size _ _ _
theorem pcs_cnt (c : UInt8) (s : ByteArray) : Lib.countB s (oneB c) ≤ s.size := Lib.countB_le (oneB c) (Nat.le_refl _) s.size s (Nat.le_refl _)
set_option maxRecDepth 100000 in
set_option maxHeartbeats 1000000 in
theorem readLine_any (s : ByteArray) (w : World) (hs : s.size ≤ 10000000) :
    Calls Tryd.prog 63 #[.string s] w (ConvRes w (unwsL (pcs 32 s))) := by
  have HC := Lib.hid (fun w => split_anyS s 32 w hs)
  have hl := pcs_len 32 s
  have hc := pcs_cnt 32 s
  have hz := pcs_size 32 s
  have HV : Hid (∀ w1, w1 = w.alloc (.cells ((pcs 32 s).map Value.string).toArray 9) → Calls Tryd.prog 83 #[.slice (some ⟨w.heap.size, 0, none⟩) (Lib.countB s (oneB 32) + 1) (Lib.countB s (oneB 32) + 1), .func (.func 84) #[] #[]] w1 fun e w' => ∃ v b, e = .returned (.tuple #[v, .bool b]) ∧ ConvRes w (unwsL (pcs 32 s)) e w') := by
    rintro w1 rfl
    have hb := below_allocD w (.cells ((pcs 32 s).map Value.string).toArray 9)
    have hnew := heap_alloc_new w (.cells ((pcs 32 s).map Value.string).toArray 9)
    refine (convW_any w.heap.size (Lib.countB s (oneB 32) + 1) (pcs 32 s) _ hl (by omega) (by simp) (fun j hj => ?_) (fun x hx => Nat.le_trans (hz x hx) (by omega))).mono fun e w' h => ?_
    · rw [cell_of_row _ w.heap.size j _ _ (0, 0) hnew]
      have : j < (pcs 32 s).length := by omega
      simp [this]
    · unfold ConvRes at h ⊢
      cases hu : unwsL (pcs 32 s) with
      | none =>
        rw [hu] at h
        obtain ⟨h1, h2⟩ := h
        exact ⟨_, _, h1, h1, hb.trans (h2.mono hb.size)⟩
      | some xs =>
        rw [hu] at h
        obtain ⟨sp, cap, h1, h2, h3⟩ := h
        exact ⟨_, _, h1, sp, cap, h1, own_monoD h2 hb.size, hb.trans (h3.mono hb.size)⟩
  clear hl hc hz hs
  go_enter Tryd.func63, Tryd.ntmps63
  go_wp2_with fail
  refine (HC.out _).mono ?_
  rintro e w1 ⟨rfl, hw⟩
  have HW := Lib.hid hw
  clear hw
  go_wp2_with fail
  refine (HV.out w1 HW.out).mono ?_
  rintro e w2 ⟨v, b, rfl, hr⟩
  have HR := Lib.hid hr
  clear hr
  go_wp2_with fail
  go_ret2
  exact HR.out
end Go.Proofs.YtmafefdchglpbaaDoor
