/-
  Layer 12's records, up to the switch behind the draws.
-/
import Derived.Test.YtecllfbadciaoaaGreatDoorQ16
import Derived.Deep.CutBlock
set_option maxRecDepth 100000
set_option maxHeartbeats 8000000
namespace Go.Proofs.YtecllfbadciaoaaGreatDoor
open Go.RowKit
structure TapeIn (w : World) (sp : Option Addr) (n cap : Nat) (l : List Int) : Prop where
 len : l.length = n
 cells : 0 < n → ∃ b off, sp = some ⟨b, off, none⟩ ∧ b < w.heap.size ∧ n ≤ cap ∧ ∀ i v, l[i]? = some v → w.cell? ⟨b, off + i, none⟩ = some (.int .i64 v)
 wide : ∀ v ∈ l, -9223372036854775808 ≤ v ∧ v ≤ 9223372036854775807
 short : n ≤ 9223372036854775807
theorem TapeIn.below {w w' : World} {sp : Option Addr} {n cap : Nat} {l : List Int} (h : TapeIn w sp n cap l) (hb : Below w.heap.size w w') : TapeIn w' sp n cap l :=
 ⟨h.len, fun hn => by
  obtain ⟨b, off, e, hlt, hc, hr⟩ := h.cells hn
  exact ⟨b, off, e, Nat.lt_of_lt_of_le hlt hb.size, hc, fun i v hi => (hb.cell (p := ⟨b, off + i, none⟩) hlt).trans (hr i v hi)⟩, h.wide, h.short⟩
theorem TapeIn.tp {w : World} {sp : Option Addr} {n cap : Nat} {l : List Int} (h : TapeIn w sp n cap l) : Tp (w.alloc (.cells #[.slice sp n cap, .int .i64 0] 35)) w.heap.size 1000 :=
 have hb : Below w.heap.size w (w.alloc (.cells #[.slice sp n cap, .int .i64 0] 35)) := (Below.refl _ _).alloc (Nat.le_refl _) _
 ⟨sp, n, cap, l, 0, ⟨heap_alloc_new w _, h.len, fun hn => by
  obtain ⟨b, off, e, hlt, hc, hr⟩ := h.cells hn
  exact ⟨b, off, e, hlt, hc, fun i v hi => (hb.cell (p := ⟨b, off + i, none⟩) hlt).trans (hr i v hi)⟩, h.wide, h.short⟩, by omega⟩
theorem OdT.belowB {tb go k B : Nat} {wb : World} {y : Rc} {w w' : World} (h : OdT tb go k wb y w) (hb : Below B w w') (hg : go < B) (hB : wb.heap.size ≤ B) : OdT tb go k wb y w' :=
 ⟨(hb.block go hg).trans h.row, h.i, h.t0, h.tp.ofB hb (by have := h.lt; omega), h.tu.below2 (hb.mono hB), h.lt⟩
@[reducible] def d1 : List Int := 1 :: List.replicate 31 0
@[reducible] def en6 : En := ⟨⟨#[97, 47, 46, 46, 47, 98]⟩, d1⟩
@[reducible] def en3 : En := ⟨⟨#[97]⟩, d1⟩
end Go.Proofs.YtecllfbadciaoaaGreatDoor
