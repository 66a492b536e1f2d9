/-
  The walks of the reference's Same and SameLines: two equal documents.
-/
import Derived.Test.YtmafefdchglpbaaDoorDecF
import Derived.WalkSmall
import Derived.BigRegion
namespace Go.Proofs.YtmafefdchglpbaaDoor
open Go.RowKit

set_option maxRecDepth 100000 in
set_option maxHeartbeats 1000000 in
theorem same_any (sp1 sp2 : Option Addr) (n c1 c2 B : Nat) (l : List ByteArray) (w : World) (h1 : StrsIn w B sp1 n l) (h2 : StrsIn w B sp2 n l) (hn : n ≤ 9223372036854775807) :
    Calls Tryd.prog 47 #[.slice sp1 n c1, .slice sp2 n c2] w fun e w' => e = .returned (.bool true) ∧ ∃ m, w' = w.drewN m := by
  have H1 := Lib.hid h1; have H2 := Lib.hid h2
  clear h1 h2
  go_enter Tryd.func47, Tryd.ntmps47
  go_wp2_with fail
  go_loopw [5] (fun i wr => ∃ k : Nat, k ≤ n ∧ i = .int .i64 k ∧ Hid (∃ m, wr = w.drewN m)) (fun i _ => n - (intOf i).toNat)
  case atStart => exact ⟨0, Nat.zero_le _, rfl, 0, rfl⟩
  case round =>
    obtain ⟨k, hk, rfl, hw⟩ := hrel
    by_cases hlt : k < n
    · have hd : decide ((k : Int) < (n : Int)) = true := by simp; omega
      have p1 : (0 : Int) ≤ (k : Int) := by omega
      have p2 : (k : Int) < (n : Int) := by omega
      obtain ⟨b1, o1, rfl, _, g1⟩ := H1.out.cells (by omega)
      obtain ⟨b2, o2, rfl, _, g2⟩ := H2.out.cells (by omega)
      have hl := H1.out.len
      have x1 : wr.cell? ⟨b1, o1 + k, none⟩ = some (.string (l[k]'(by omega))) := by
        obtain ⟨m, hm⟩ := hw.out
        rw [hm]; exact g1 k (by omega)
      have x2 : wr.cell? ⟨b2, o2 + k, none⟩ = some (.string (l[k]'(by omega))) := by
        obtain ⟨m, hm⟩ := hw.out
        rw [hm]; exact g2 k (by omega)
      generalize l[k]'(by omega) = x at x1 x2
      have HW : Hid (∀ q, ∃ m, wr.drewN q = w.drewN m) := fun q => by
        obtain ⟨m, hm⟩ := hw.out
        exact ⟨m + q, by rw [hm, World.drewN_drewN]⟩
      clear hw g1 g2 hl
      go_wp2_with fail
      go_quiet (fail)
      go_wp2_with fail
      go_roundw
      case rel => exact ⟨k + 1, by omega, by go_num, HW.out _⟩
      case measure => simp [intOf]; omega
    · obtain rfl : n = k := by omega
      have hd : decide ((n : Int) < (n : Int)) = false := by simp
      go_wp2_with fail
      go_ret
      exact ⟨rfl, hw.out⟩
set_option maxRecDepth 100000 in
set_option maxHeartbeats 1000000 in
theorem sameLines_any (pa pb : Option Addr) (c1 c2 B : Nat) (la lb : List Ln) (w : World) (h1 : LinesIn w B pa la.length la) (h2 : LinesIn w B pb lb.length lb) (heq : wordsOf la = wordsOf lb) (hn : la.length ≤ 9223372036854775807) (hq : ∀ q ∈ la, q.n ≤ 9223372036854775807) :
    Calls Tryd.prog 21 #[.slice pa la.length c1, .slice pb lb.length c2] w fun e w' => e = .returned (.bool true) ∧ ∃ m, w' = w.drewN m := by
  have hle : lb.length = la.length := by have := congrArg List.length heq; rw [wordsOf_length, wordsOf_length] at this; exact this.symm
  rw [hle] at h2 ⊢
  have H1 := Lib.hid h1; have H2 := Lib.hid h2; have HEQ := Lib.hid heq; have HQ := Lib.hid hq; have HLE := Lib.hid hle
  obtain ⟨n, hnn⟩ : ∃ n, la.length = n := ⟨_, rfl⟩
  rw [hnn] at H1 H2 HLE hn ⊢
  have HN := Lib.hid hnn
  clear h1 h2 heq hq hle hnn
  go_enter Tryd.func21, Tryd.ntmps21
  go_wp2_with fail
  go_loopw [5] (fun i wr => ∃ k : Nat, k ≤ n ∧ i = .int .i64 k ∧ Hid (∃ m, wr = w.drewN m)) (fun i _ => n - (intOf i).toNat)
  case atStart => exact ⟨0, Nat.zero_le _, rfl, 0, rfl⟩
  case round =>
    obtain ⟨k, hk, rfl, hw⟩ := hrel
    by_cases hlt : k < n
    · have hd : decide ((k : Int) < (n : Int)) = true := by simp; omega
      have p1 : (0 : Int) ≤ (k : Int) := by omega
      have p2 : (k : Int) < (n : Int) := by omega
      obtain ⟨b1, o1, rfl, _, g1⟩ := H1.out.cells (by omega)
      obtain ⟨b2, o2, rfl, _, g2⟩ := H2.out.cells (by omega)
      have k1 : k < la.length := by rw [HN.out]; exact hlt
      have k2 : k < lb.length := by rw [HLE.out]; exact hlt
      have e1 := H1.out.each _ (List.getElem_mem k1)
      have e2 := H2.out.each _ (List.getElem_mem k2)
      have hll : la[k].l = lb[k].l := by
        rw [← wordsOf_get la k k1, ← wordsOf_get lb k k2]
        have := HEQ.out
        simp only [this]
      have hnl : lb[k].n = la[k].n := by rw [← e1.len, ← e2.len, hll]
      have hqn := HQ.out _ (List.getElem_mem k1)
      have x1 : wr.cell? ⟨b1, o1 + k, none⟩ = some (.slice la[k].sp la[k].n la[k].cap) := by
        obtain ⟨m, hm⟩ := hw.out
        rw [hm]; exact g1 k k1
      have x2 : wr.cell? ⟨b2, o2 + k, none⟩ = some (.slice lb[k].sp la[k].n lb[k].cap) := by
        obtain ⟨m, hm⟩ := hw.out
        rw [hm, ← hnl]; exact g2 k k2
      have HS : Hid (∀ q, Calls Tryd.prog 47 #[.slice la[k].sp la[k].n la[k].cap, .slice lb[k].sp la[k].n lb[k].cap] (wr.drewN q) fun e w' => e = .returned (.bool true) ∧ ∃ m, w' = wr.drewN m) := fun q => by
        obtain ⟨m, hm⟩ := hw.out
        have e2' := e2
        rw [hnl, ← hll] at e2'
        have b0 : Below B w (wr.drewN q) := by rw [hm, World.drewN_drewN]; exact below_drewN (Below.refl _ _) _
        refine (same_any la[k].sp lb[k].sp la[k].n la[k].cap lb[k].cap B la[k].l (wr.drewN q) (e1.below b0 (Nat.le_refl _)) (e2'.below b0 (Nat.le_refl _)) hqn).mono fun e w' ⟨he, m2, h2⟩ => ⟨he, q + m2, by rw [h2, World.drewN_drewN]⟩
      have HW : Hid (∀ q, ∃ m, wr.drewN q = w.drewN m) := fun q => by
        obtain ⟨m, hm⟩ := hw.out
        exact ⟨m + q, by rw [hm, World.drewN_drewN]⟩
      generalize la[k].sp = s1 at *
      generalize la[k].n = m1 at *
      generalize la[k].cap = d1 at *
      generalize lb[k].sp = s2 at *
      generalize lb[k].cap = d2 at *
      clear hw g1 g2 e1 e2 hll hnl k1 k2
      go_wp2_with fail
      go_quiet ((go_at_call 47; exact HS.out _))
      go_wp2_with fail
      go_roundw
      case rel => exact ⟨k + 1, by omega, by go_num, HW.out _⟩
      case measure => simp [intOf]; omega
    · obtain rfl : n = k := by omega
      have hd : decide ((n : Int) < (n : Int)) = false := by simp
      go_wp2_with fail
      go_ret
      exact ⟨rfl, hw.out⟩
end Go.Proofs.YtmafefdchglpbaaDoor
