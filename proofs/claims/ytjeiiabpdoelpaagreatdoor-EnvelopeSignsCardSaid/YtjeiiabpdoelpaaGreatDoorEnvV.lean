/-
  Envelopes: what Sign answers, in parts; the two boxes that take it (conditions: signatures of at most 1000 halves).
-/
import Derived.Test.YtjeiiabpdoelpaaGreatDoorEnvT
namespace Go.Proofs.YtjeiiabpdoelpaaGreatDoor
open Go.RowKit Go.Proofs.YtjeiiabpdoelpaaGreatDoor.One
def SgW (V : SgV) (w : World) (e : Ending) (w' : World) : Prop :=
 ∃ (sp : Option Addr) (n c : Nat) (sq : Option Addr) (m d : Nat) (l : List Sg), e = .returned (.tuple #[.agg (enA V.t (.slice sp n c) (.slice sq m d)), .agg (sgA V.x V.h V.n), .int .i64 V.E]) ∧ BSrc w' w'.heap.size sp n c V.b ∧ SgsIn w' w'.heap.size sq m d l ∧ l.map pg = V.L ∧ Below w.heap.size w w'
theorem SgR.W {V : SgV} {w w' : World} {e : Ending} (h : SgR V w e w') : SgW V w e w' := by
 obtain ⟨p, s, rfl, ⟨l, hl, hev⟩, hb⟩ := h
 obtain ⟨⟨sp, n, c, rfl, hp, _⟩, ⟨sq, m, d, rfl, hs, _⟩⟩ := hev.out
 exact ⟨sp, n, c, sq, m, d, l, rfl, hp, hs, hl, hb⟩
theorem DR {t : ByteArray} {b : List UInt8} {L : List Pg} {x : List Int} {h n : Int} (hL : ∀ y ∈ L, y.l.length ≤ 1000 ∧ y.q.length ≤ 1000) : ∀ y ∈ (jV t b L x h n).L, y.l.length ≤ 1000 ∧ y.q.length ≤ 1000 := by
 unfold jV
 split
 ·rename_i h0
  obtain ⟨_, hs, _, _⟩ := vI h0
  obtain ⟨k, leaf, rfl, rfl, hk, _⟩ := vJ hs
  intro y hy
  rcases kO hy with hy | rfl
  ·exact hL y hy
  ·refine ⟨?_, ?_⟩
   ·show (eK _ _ _).length ≤ 1000
    rw [hO]; omega
   ·show (dA _ _ _).length ≤ 1000
    rw [fJ, Int.toNat_natCast]; omega
 ·intro y hy; cases hy
theorem DQ {t : ByteArray} {b : List UInt8} {L : List Pg} {x : List Int} {h n : Int} : (jV t b L x h n).L.length ≤ L.length + 1 := by
 unfold jV
 split
 ·show (nW L _).length ≤ _; rw [pW]; exact Nat.le_refl _
 ·exact Nat.zero_le _
structure TwoB (w : World) (EA SA : Array Value) (w' : World) : Prop where
 e : w'.heap[w.heap.size]? = some (.cells EA 25 (0, 0))
 s : w'.heap[w.heap.size + 1]? = some (.cells SA 39 (0, 0))
 b : Below w.heap.size w w'
 k : w'.heap.size = w.heap.size + 2
theorem TwoB.new (w : World) : TwoB w zEn (sgA bI 0 0) ((w.alloc (.cells zEn 25)).alloc (.cells (sgA bI 0 0) 39)) :=
 ⟨(heap_alloc_old _ _ (by simp)).trans (heap_alloc_new w _), by have h := heap_alloc_new (w.alloc (.cells zEn 25)) (.cells (sgA bI 0 0) 39); rw [World.size_alloc] at h; exact h, ((Below.refl _ _).alloc (Nat.le_refl _) _).alloc (by simp) _, by simp⟩
theorem TwoB.setE {w : World} {EA SA : Array Value} {w' : World} (h : TwoB w EA SA w') (E2 : Array Value) : TwoB w E2 SA (w'.setRow w.heap.size E2) :=
 ⟨setRow_heap _ _ _ _ _ _ h.e, (setRow_other _ _ _ _ (by omega)).trans h.s, below_setRow h.b (Nat.le_refl _) _, by rw [setRow_size]; exact h.k⟩
theorem TwoB.setS {w : World} {EA SA : Array Value} {w' : World} (h : TwoB w EA SA w') (S2 : Array Value) : TwoB w EA S2 (w'.setRow (w.heap.size + 1) S2) :=
 ⟨(setRow_other _ _ _ _ (by omega)).trans h.e, setRow_heap _ _ _ _ _ _ h.s, below_setRow h.b (Nat.le_succ _) _, by rw [setRow_size]; exact h.k⟩
end Go.Proofs.YtjeiiabpdoelpaaGreatDoor
