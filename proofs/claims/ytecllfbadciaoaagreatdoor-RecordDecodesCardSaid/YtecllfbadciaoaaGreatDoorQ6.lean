/-
  Laws inside a fence: a row stored, a row's part loaded, a struct and a slice of one put together, an append of one change (conditions in each theorem); the walk of sideBySide.
-/
import Derived.Test.YtecllfbadciaoaaGreatDoorSnF
import Derived.RangeFuncBox
import Derived.Shelf.Abstract
set_option maxRecDepth 100000
set_option maxHeartbeats 8000000
namespace Go.Proofs.YtecllfbadciaoaaGreatDoor
open Go.RowKit
section
variable {F : Fence} {n : Nat} {P : Program} {ops : Array Oper} {rest : List Oper} {o : Oper} {a : Act} {w : World} {Q : Exit → Act → World → Prop}
end
end Go.Proofs.YtecllfbadciaoaaGreatDoor
namespace Go.Proofs.YtecllfbadciaoaaGreatDoor
open Go.RowKit Go.Shelf
attribute [local go_sem] Oper.semAt_some
end Go.Proofs.YtecllfbadciaoaaGreatDoor
namespace Go.Proofs.YtecllfbadciaoaaGreatDoor
open Go.RowKit
def ResC (w : World) (r : Except Int (List Cg)) (e : Ending) (w' : World) : Prop := match r with
 | .error k => e = .returned (.tuple #[.slice none 0 0, .int .i64 k]) ∧ Below w.heap.size w w'
 | .ok l => ∃ sp cap, e = .returned (.tuple #[.slice sp l.length cap, .int .i64 0]) ∧ OwnC w' w.heap.size (.slice sp l.length cap) l ∧ Below w.heap.size w w'
def ResE (w : World) (r : Except Int (List En)) (e : Ending) (w' : World) : Prop := match r with
 | .error k => e = .returned (.tuple #[.slice none 0 0, .int .i64 k]) ∧ Below w.heap.size w w'
 | .ok l => ∃ sp cap, e = .returned (.tuple #[.slice sp l.length cap, .int .i64 0]) ∧ OwnE w' w.heap.size (.slice sp l.length cap) l ∧ Below w.heap.size w w'
theorem resE_error {w w' : World} {r : Except Int (List En)} {k : Int} {e : Ending} (h : r = .error k) (he : e = .returned (.tuple #[.slice none 0 0, .int .i64 k])) (hb : Below w.heap.size w w') : ResE w r e w' := by subst h; exact ⟨he, hb⟩
theorem resE_ok {w w' : World} {r : Except Int (List En)} {l : List En} {e : Ending} {sp : Option Addr} {n cap : Nat} (h : r = .ok l) (hn : n = l.length) (he : e = .returned (.tuple #[.slice sp n cap, .int .i64 0])) (ho : OwnE w' w.heap.size (.slice sp n cap) l) (hb : Below w.heap.size w w') : ResE w r e w' := by subst h; subst hn; exact ⟨sp, cap, he, ho, hb⟩
theorem OwnC.base {w : World} {b b' : Nat} {v : Value} {l : List Cg} (h : OwnC w b v l) (hb : b' ≤ b) : OwnC w b' v l := by
 refine ⟨?_, h.2⟩
 obtain ⟨hl, h1 | ⟨g, cap, cur, e, hbg, rest⟩⟩ := h.1
 ·exact ⟨hl, .inl h1⟩
 ·exact ⟨hl, .inr ⟨g, cap, cur, e, Nat.le_trans hb hbg, rest⟩⟩
theorem OwnE.base {w : World} {b b' : Nat} {v : Value} {l : List En} (h : OwnE w b v l) (hb : b' ≤ b) : OwnE w b' v l := by
 refine ⟨?_, h.2⟩
 obtain ⟨hl, h1 | ⟨g, cap, cur, e, hbg, rest⟩⟩ := h.1
 ·exact ⟨hl, .inl h1⟩
 ·exact ⟨hl, .inr ⟨g, cap, cur, e, Nat.le_trans hb hbg, rest⟩⟩
theorem CgsIn.up {w w' : World} {B : Nat} {sp : Option Addr} {n cap : Nat} {l : List Cg} (h : CgsIn w B sp n cap l) (hb : Below B w w') (hs : B ≤ w.heap.size) : CgsIn w' w'.heap.size sp n cap l :=
 (h.below hb (Nat.le_refl _)).below (Below.refl w'.heap.size w') (Nat.le_trans hs hb.size)
theorem EnsIn.up {w w' : World} {B : Nat} {sp : Option Addr} {n cap : Nat} {l : List En} (h : EnsIn w B sp n cap l) (hb : Below B w w') (hs : B ≤ w.heap.size) : EnsIn w' w'.heap.size sp n cap l :=
 (h.below hb (Nat.le_refl _)).below (Below.refl w'.heap.size w') (Nat.le_trans hs hb.size)
end Go.Proofs.YtecllfbadciaoaaGreatDoor
