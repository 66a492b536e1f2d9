/-
  Envelopes: what a statement looks at: an envelope as it stands in memory, two of them in a row, what made answers.
-/
import Derived.Test.YtcligodahogpkaaGreatDoorEnvR
set_option maxRecDepth 100000
set_option maxHeartbeats 8000000
namespace Go.Proofs.YtcligodahogpkaaGreatDoor
open Go.RowKit Go.Proofs.YtcligodahogpkaaGreatDoor.One
structure EvX (w : World) (t : ByteArray) (sp : Option Addr) (n cap : Nat) (b : List UInt8) (sq : Option Addr) (m cq : Nat) (l : List Sg) : Prop where
 ht : t.size ≤ 300
 hn : n ≤ 100000
 hm : m ≤ 12
 p : BSrc w w.heap.size sp n cap b
 pn : sp = none → cap = 0
 s : SgsIn w w.heap.size sq m cq l
 sn : sq = none → cq = 0
 lt : ∀ y ∈ l, y.n ≤ 1000 ∧ y.m ≤ 1000
section
variable {w w' : World} {t : ByteArray} {sp : Option Addr} {n cap : Nat} {b : List UInt8} {sq : Option Addr} {m cq : Nat} {l : List Sg}
theorem EvX.below (h : EvX w t sp n cap b sq m cq l) (hb : Below w.heap.size w w') : EvX w' t sp n cap b sq m cq l :=
 ⟨h.ht, h.hn, h.hm, (h.p.below hb (Nat.le_refl _)).more hb.size, h.pn, h.s.up hb (Nat.le_refl _), h.sn, h.lt⟩
theorem EvX.tl (h : EvX w t sp n cap b sq m cq l) : t.size ≤ maxLen := by have := h.ht; unfold maxLen; omega
end
def MdX (w : World) (e : Ending) (w' : World) : Prop :=
 (∃ t sp n cap b sq m cq l, e = .returned (.agg (enL t (.slice sp n cap) (.slice sq m cq)).toArray) ∧ EvX w' t sp n cap b sq m cq l) ∧ Below w.heap.size w w'
theorem MdO.X {kk : Int} {B0 : List UInt8} {w w' : World} {e : Ending} (h : MdO kk B0 w e w') : MdX w e w' := by
 obtain ⟨t, a1, n1, c1, a2, n2, c2, b', l', he, hev, ht, h1, h2, hlt, hb, _⟩ := h.h
 obtain ⟨⟨sp, n, cap, e1, hp, hpn⟩, ⟨sq, m, cq, e2, hs, hsn⟩⟩ := hev.out
 injection e1 with e1 e3 e4; subst e1 e3 e4
 injection e2 with e1 e3 e4; subst e1 e3 e4
 exact ⟨⟨t, a1, n1, c1, b', a2, n2, c2, l', he, ⟨ht, by omega, by omega, hp, hpn, hs, hsn, fun y hy => by have := hlt y hy; omega⟩⟩, hb⟩
structure EvR (w : World) (g : Nat) : Prop where
 e : ∀ k, k < 2 → ∃ t sp n cap b sq m cq l, EvX w t sp n cap b sq m cq l ∧ w.rangeAt g (k * 3) (enL t (.slice sp n cap) (.slice sq m cq))
 g : g < w.heap.size
theorem EvR.below {w w' : World} {g : Nat} (h : EvR w g) (hb : Below w.heap.size w w') : EvR w' g :=
 ⟨fun k hk => by
  obtain ⟨t, sp, n, cap, b, sq, m, cq, l, hx, hr⟩ := h.e k hk
  exact ⟨t, sp, n, cap, b, sq, m, cq, l, hx.below hb, aA hr hb h.g⟩, Nat.lt_of_lt_of_le h.g hb.size⟩
theorem EvR.of {w : World} {g : Nat} {t t' : ByteArray} {sp sp' sq sq' : Option Addr} {n cap m cq n' cap' m' cq' : Nat} {b b' : List UInt8} {l l' : List Sg}
 (hg : w.heap[g]? = some (.cells (enL t (.slice sp n cap) (.slice sq m cq) ++ enL t' (.slice sp' n' cap') (.slice sq' m' cq')).toArray 25 (0, 0)))
 (h : EvX w t sp n cap b sq m cq l) (h' : EvX w t' sp' n' cap' b' sq' m' cq' l') : EvR w g :=
 ⟨fun k hk => by
  rcases k with _ | _ | k
  ·refine ⟨t, sp, n, cap, b, sq, m, cq, l, h, fun j v hv => ?_⟩
   have hj := (List.getElem?_eq_some_iff.1 hv).1
   refine aH hg ?_
   show (enL t (.slice sp n cap) (.slice sq m cq) ++ _)[0 + j]? = _
   rw [Nat.zero_add, List.getElem?_append_left hj]; exact hv
  ·refine ⟨t', sp', n', cap', b', sq', m', cq', l', h', fun j v hv => ?_⟩
   refine aH hg ?_
   show (enL t (.slice sp n cap) (.slice sq m cq) ++ _)[3 + j]? = _
   rw [List.getElem?_append_right (by show 3 ≤ 3 + j; omega)]
   show (enL t' (.slice sp' n' cap') (.slice sq' m' cq'))[3 + j - 3]? = _
   rw [Nat.add_sub_cancel_left]; exact hv
  ·omega, (Array.getElem?_eq_some_iff.1 hg).1⟩
theorem JE (p s : Value) (k y : Int) : (Tryz.prog.info? 27).map (·.size) = some (caL p s k y).length := by kernel_rfl
theorem OwnDg.up {w : World} {b : Nat} {sp : Option Addr} {n cap : Nat} {l : List (List Int)} (h : OwnDg w b (.slice sp n cap) l) (hn : l.length = n) : DigsIn w w.heap.size sp n cap l := h.digs hn
theorem xJ (t : ByteArray) (b : List UInt8) (L : List Pg) : (kL t b L).length ≤ 8 := by
 unfold kL
 split
 ·rename_i h; exact Nat.le_trans (CY _ _) (nR h)
 ·exact Nat.zero_le _
end Go.Proofs.YtcligodahogpkaaGreatDoor
