/-
  The walk of the statement SnapshotDiffs (conditions: digests of 32 bytes).
-/
import Derived.Test.YtkookkhlgllneaaDoorGe
import Derived.Test.YtkookkhlgllneaaDoorGf
import Derived.Test.YtkookkhlgllneaaDoorLawSnC
namespace Go.Proofs.YtkookkhlgllneaaDoor
open Go.RowKit

/-- a slice of numbers below block B -/
structure IntsT (w : World) (B : Nat) (sp : Option Addr) (n cap : Nat) (l : List Int) : Prop where
  len : l.length = n
  cells : 0 < n → ∃ b off, sp = some ⟨b, off, none⟩ ∧ b < B ∧ n ≤ cap ∧ ∀ i v, l[i]? = some v → w.cell? ⟨b, off + i, none⟩ = some (.int .i64 v)
  wide : ∀ v ∈ l, -9223372036854775808 ≤ v ∧ v ≤ 9223372036854775807
  short : n ≤ 9223372036854775807
theorem IntsT.tape {w : World} {sp : Option Addr} {n cap : Nat} {l : List Int} (h : IntsT w w.heap.size sp n cap l) : TpIn (w.alloc (.cells #[.slice sp n cap, .int .i64 0] 37)) w.heap.size sp n cap l 0 :=
  ⟨heap_alloc_new w _, h.len, fun hn => by
    obtain ⟨b, off, e, hlt, hc, hr⟩ := h.cells hn
    exact ⟨b, off, e, hlt, hc, fun i v hi => (((Below.refl w.heap.size w).alloc (Nat.le_refl _) _).cell (p := ⟨b, off + i, none⟩) hlt).trans (hr i v hi)⟩, h.wide, h.short⟩
theorem buildTp (v : Value) (hv : ∃ sp n cap, v = .slice sp n cap) (w : World) : (Instr.build 37 #[(0, v)]).run Tryd.prog w = .ok (.agg #[v, .int .i64 0]) w := by
  obtain ⟨sp, n, cap, rfl⟩ := hv
  kernel_rfl
theorem fold_insF_len {α β : Type} (g : β → ByteArray) (h : α → Option β) : ∀ (l : List α) (out : List β), (l.foldl (insF g h) out).length ≤ out.length + l.length
  | [], out => Nat.le_refl _
  | x :: l, out => by
    rw [List.foldl_cons]
    have h1 := fold_insF_len g h l (insF g h out x)
    have h2 : (insF g h out x).length ≤ out.length + 1 := by
      unfold insF
      split
      · omega
      · rw [length_ins]; omega
    rw [List.length_cons]; omega
theorem sDiff_short (a b : List En) : (vC (sDiff a b)).1.length ≤ 1000 := by
  rw [← sRDiff_eq]
  unfold sRDiff
  split
  · rename_i h
    rw [Bool.and_eq_true] at h
    have h1 := (vldE_parts h.1).1
    have h2 := (vldE_parts h.2).1
    show (rdif a b).length ≤ 1000
    unfold rdif
    have h3 := fold_insF_len Cg.p (hD2 a) b (a.foldl (insF Cg.p (hD1 b)) [])
    have h4 := fold_insF_len Cg.p (hD1 b) a []
    simp only [List.length_nil] at h4
    omega
  · simp [vC]
end Go.Proofs.YtkookkhlgllneaaDoor
