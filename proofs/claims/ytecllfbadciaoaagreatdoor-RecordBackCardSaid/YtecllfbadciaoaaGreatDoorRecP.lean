/-
  Records as they are read (plain, and in memory): variables, commands, which records are valid (conditions in each lemma).
-/
import Derived.Test.YtecllfbadciaoaaGreatDoorRecE
set_option maxRecDepth 100000
set_option maxHeartbeats 8000000
namespace Go.Proofs.YtecllfbadciaoaaGreatDoor
open Go.RowKit
structure Vr where
 n : ByteArray
 v : ByteArray
def vrL (x : Vr) : List Value := [.string x.n, .string x.v]
theorem infoVr (x : Vr) : (Tryz.prog.info? 61).map (·.size) = some (vrL x).length := by kernel_rfl
theorem infoVrA (x : Vr) : (Tryz.prog.info? 61).map (·.size) = some (vrL x).toArray.size := by kernel_rfl
theorem oneVr (x : Vr) : (vrL x).toArray.all (·.oneCell') = true := by simp [vrL, Value.oneCell']
structure VrsIn (w : World) (B : Nat) (sp : Option Addr) (n cap : Nat) (l : List Vr) : Prop where
 len : l.length = n
 cells : 0 < n → ∃ b off, sp = some ⟨b, off, none⟩ ∧ b < B ∧ n ≤ cap ∧ ∀ i x, l[i]? = some x → w.rangeAt b (off + i * 2) (vrL x)
theorem range_belowR {w w' : World} {b o B : Nat} {cs : List Value} (h : w.rangeAt b o cs) (hb : Below B w w') (hlt : b < B) : w'.rangeAt b o cs := fun j v hv => (hb.cell (p := ⟨b, o + j, none⟩) hlt).trans (h j v hv)
theorem VrsIn.below {w w' : World} {B B' : Nat} {sp : Option Addr} {n cap : Nat} {l : List Vr} (h : VrsIn w B sp n cap l) (hb : Below B' w w') (hB : B ≤ B') : VrsIn w' B' sp n cap l :=
 ⟨h.len, fun hn => by
  obtain ⟨b, off, e, hlt, hc, hr⟩ := h.cells hn
  exact ⟨b, off, e, by omega, hc, fun i x hi => range_belowR (hr i x hi) hb (by omega)⟩⟩
theorem VrsIn.up {w w' : World} {sp : Option Addr} {n cap : Nat} {l : List Vr} (h : VrsIn w w.heap.size sp n cap l) (hb : Below w.heap.size w w') : VrsIn w' w'.heap.size sp n cap l :=
 ⟨h.len, fun hn => by
  obtain ⟨b, off, e, hlt, hc, hr⟩ := h.cells hn
  exact ⟨b, off, e, Nat.lt_of_lt_of_le hlt hb.size, hc, fun i x hi => range_belowR (hr i x hi) hb hlt⟩⟩
def lng2 (s : ByteArray) : Bool := decide (200 < s.size)
def cmdB (l : List ByteArray) : Bool := decide (l.length ≤ 16) && !l.any lng2
def vAt (l : List Vr) (i : Nat) : Bool := match l[i]? with
 | none => false
 | some x => nmB x.n.data.toList && !lng2 x.v && (match i with
   | 0 => true
   | j + 1 => match l[j]? with
     | none => false
     | some y => pls y.n x.n)
def vAll (l : List Vr) : Bool := (List.range l.length).all (vAt l)
def envB (l : List Vr) : Bool := decide (l.length ≤ 16) && vAll l
theorem vAll_no {l : List Vr} {i : Nat} (hi : i < l.length) (h : vAt l i = false) : vAll l = false := by
 unfold vAll; rw [List.all_eq_false]; exact ⟨i, List.mem_range.2 hi, by rw [h]; simp⟩
theorem vAll_yes {l : List Vr} {n : Nat} (hn : l.length = n) (h : ∀ j, j < n → vAt l j = true) : vAll l = true := by
 unfold vAll; rw [List.all_eq_true, hn]; exact fun j hj => h j (List.mem_range.1 hj)
theorem vAt_zero {l : List Vr} {x : Vr} (hx : l[0]? = some x) : vAt l 0 = (nmB x.n.data.toList && !lng2 x.v) := by
 unfold vAt; rw [hx]; simp
theorem vAt_succ {l : List Vr} {k : Nat} {x y : Vr} (hx : l[k + 1]? = some x) (hy : l[k]? = some y) : vAt l (k + 1) = (nmB x.n.data.toList && !lng2 x.v && pls y.n x.n) := by
 unfold vAt; rw [hx]; simp only [hy]
theorem vAt_bad {l : List Vr} {k : Nat} {x : Vr} (hx : l[k]? = some x) (h : nmB x.n.data.toList = false ∨ lng2 x.v = true) : vAt l k = false := by
 unfold vAt; rw [hx]; rcases h with h | h <;> simp [h]
theorem cmd_take_succ (l : List ByteArray) (k : Nat) (hk : k < l.length) (h : (l.take k).any lng2 = false) (hc : lng2 l[k] = false) : (l.take (k + 1)).any lng2 = false := by
 rw [List.take_succ_eq_append_getElem hk, List.any_append, h]; simp [hc]
theorem cmd_any (l : List ByteArray) (k : Nat) (hk : k < l.length) (hc : lng2 l[k] = true) : l.any lng2 = true := List.any_eq_true.2 ⟨l[k], List.getElem_mem _, hc⟩
structure Rc where
 run : ByteArray
 scp : ByteArray
 stp : ByteArray
 t : Int
 c1 : Option Addr
 cn : Nat
 cc : Nat
 c : List ByteArray
 v1 : Option Addr
 vn : Nat
 vc : Nat
 v : List Vr
 m1 : Option Addr
 mn : Nat
 mc : Nat
 m : List En
 p1 : Option Addr
 pn : Nat
 pc : Nat
 p : List En
def Rc.L (x : Rc) : List Value := [.string x.run, .string x.scp, .string x.stp, .int .i64 x.t, .slice x.c1 x.cn x.cc, .slice x.v1 x.vn x.vc, .slice x.m1 x.mn x.mc, .slice x.p1 x.pn x.pc]
theorem infoRc (x : Rc) : (Tryz.prog.info? 31).map (·.size) = some x.L.length := by kernel_rfl
theorem infoRcA (x : Rc) : (Tryz.prog.info? 31).map (·.size) = some x.L.toArray.size := by kernel_rfl
theorem oneRc (x : Rc) : x.L.toArray.all (·.oneCell') = true := by simp [Rc.L, Value.oneCell']
structure RcIn (x : Rc) (w : World) : Prop where
 c : StrsIn w w.heap.size x.c1 x.cn x.c
 v : VrsIn w w.heap.size x.v1 x.vn x.vc x.v
 m : EnsIn w w.heap.size x.m1 x.mn x.mc x.m
 p : EnsIn w w.heap.size x.p1 x.pn x.pc x.p
 b : x.run.size ≤ maxLen ∧ x.scp.size ≤ 100000 ∧ x.stp.size ≤ maxLen ∧ x.cn ≤ 1000 ∧ x.vn ≤ 1000 ∧ x.mn ≤ 1000 ∧ x.pn ≤ 1000
 s : (∀ y ∈ x.c, y.size ≤ 100000) ∧ (∀ y ∈ x.v, y.n.size ≤ maxLen ∧ y.v.size ≤ 100000)
 t : -9223372036854775808 ≤ x.t ∧ x.t ≤ 9223372036854775807
theorem StrsIn.upR {w w' : World} {sp : Option Addr} {n : Nat} {l : List ByteArray} (h : StrsIn w w.heap.size sp n l) (hb : Below w.heap.size w w') : StrsIn w' w'.heap.size sp n l := (h.below hb (Nat.le_refl _)).more hb.size
theorem EnsIn.upR {w w' : World} {sp : Option Addr} {n cap : Nat} {l : List En} (h : EnsIn w w.heap.size sp n cap l) (hb : Below w.heap.size w w') : EnsIn w' w'.heap.size sp n cap l :=
 ⟨h.len, h.ok, fun hn => by
  obtain ⟨b, off, e, hlt, hc, hr⟩ := h.cells hn
  exact ⟨b, off, e, Nat.lt_of_lt_of_le hlt hb.size, hc, fun i x hi => range_belowR (hr i x hi) hb hlt⟩⟩
theorem RcIn.below {x : Rc} {w w' : World} (h : RcIn x w) (hb : Below w.heap.size w w') : RcIn x w' := ⟨h.c.upR hb, h.v.up hb, h.m.upR hb, h.p.upR hb, h.b, h.s, h.t⟩
def rcA (x : Rc) : Bool := nmB x.run.data.toList && scpB x.scp && nmB x.stp.data.toList
def rcT (x : Rc) : Bool := decide (0 ≤ x.t) && decide (x.t ≤ 1099511627776)
def rcB (x : Rc) : Bool := rcA x && (rcT x && (cmdB x.c && (envB x.v && (vldE x.m && vldE x.p))))
end Go.Proofs.YtecllfbadciaoaaGreatDoor
