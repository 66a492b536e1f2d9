/-
  Records as they are read (plain, and in memory): variables, commands, which records are valid (conditions in each lemma).
-/
import Derived.Test.YtecllfbadciaoaaGreatDoorRecE
set_option maxRecDepth 100000
set_option maxHeartbeats 8000000
namespace Go.Proofs.YtecllfbadciaoaaGreatDoor
open Go.RowKit
structure Vr where
 n : ByteArray
 v : ByteArray
def vrL (x : Vr) : List Value := [.string x.n, .string x.v]
structure VrsIn (w : World) (B : Nat) (sp : Option Addr) (n cap : Nat) (l : List Vr) : Prop where
 len : l.length = n
 cells : 0 < n → ∃ b off, sp = some ⟨b, off, none⟩ ∧ b < B ∧ n ≤ cap ∧ ∀ i x, l[i]? = some x → w.rangeAt b (off + i * 2) (vrL x)
theorem range_belowR {w w' : World} {b o B : Nat} {cs : List Value} (h : w.rangeAt b o cs) (hb : Below B w w') (hlt : b < B) : w'.rangeAt b o cs := fun j v hv => (hb.cell (p := ⟨b, o + j, none⟩) hlt).trans (h j v hv)
theorem VrsIn.below {w w' : World} {B B' : Nat} {sp : Option Addr} {n cap : Nat} {l : List Vr} (h : VrsIn w B sp n cap l) (hb : Below B' w w') (hB : B ≤ B') : VrsIn w' B' sp n cap l :=
 ⟨h.len, fun hn => by
  obtain ⟨b, off, e, hlt, hc, hr⟩ := h.cells hn
  exact ⟨b, off, e, by omega, hc, fun i x hi => range_belowR (hr i x hi) hb (by omega)⟩⟩
theorem VrsIn.up {w w' : World} {sp : Option Addr} {n cap : Nat} {l : List Vr} (h : VrsIn w w.heap.size sp n cap l) (hb : Below w.heap.size w w') : VrsIn w' w'.heap.size sp n cap l :=
 ⟨h.len, fun hn => by
  obtain ⟨b, off, e, hlt, hc, hr⟩ := h.cells hn
  exact ⟨b, off, e, Nat.lt_of_lt_of_le hlt hb.size, hc, fun i x hi => range_belowR (hr i x hi) hb hlt⟩⟩
structure Rc where
 run : ByteArray
 scp : ByteArray
 stp : ByteArray
 t : Int
 c1 : Option Addr
 cn : Nat
 cc : Nat
 c : List ByteArray
 v1 : Option Addr
 vn : Nat
 vc : Nat
 v : List Vr
 m1 : Option Addr
 mn : Nat
 mc : Nat
 m : List En
 p1 : Option Addr
 pn : Nat
 pc : Nat
 p : List En
def Rc.L (x : Rc) : List Value := [.string x.run, .string x.scp, .string x.stp, .int .i64 x.t, .slice x.c1 x.cn x.cc, .slice x.v1 x.vn x.vc, .slice x.m1 x.mn x.mc, .slice x.p1 x.pn x.pc]
theorem infoRc (x : Rc) : (Tryz.prog.info? 31).map (·.size) = some x.L.length := by kernel_rfl
theorem infoRcA (x : Rc) : (Tryz.prog.info? 31).map (·.size) = some x.L.toArray.size := by kernel_rfl
theorem oneRc (x : Rc) : x.L.toArray.all (·.oneCell') = true := by simp [Rc.L, Value.oneCell']
structure RcIn (x : Rc) (w : World) : Prop where
 c : StrsIn w w.heap.size x.c1 x.cn x.c
 v : VrsIn w w.heap.size x.v1 x.vn x.vc x.v
 m : EnsIn w w.heap.size x.m1 x.mn x.mc x.m
 p : EnsIn w w.heap.size x.p1 x.pn x.pc x.p
 b : x.run.size ≤ maxLen ∧ x.scp.size ≤ 1000 ∧ x.stp.size ≤ maxLen ∧ x.cn ≤ 1000 ∧ x.vn ≤ 1000 ∧ x.mn ≤ 1000 ∧ x.pn ≤ 1000
 s : (∀ y ∈ x.c, y.size ≤ 1000) ∧ (∀ y ∈ x.v, y.n.size ≤ maxLen ∧ y.v.size ≤ 1000)
 t : -9223372036854775808 ≤ x.t ∧ x.t ≤ 9223372036854775807
theorem StrsIn.upR {w w' : World} {sp : Option Addr} {n : Nat} {l : List ByteArray} (h : StrsIn w w.heap.size sp n l) (hb : Below w.heap.size w w') : StrsIn w' w'.heap.size sp n l := (h.below hb (Nat.le_refl _)).more hb.size
theorem EnsIn.upR {w w' : World} {sp : Option Addr} {n cap : Nat} {l : List En} (h : EnsIn w w.heap.size sp n cap l) (hb : Below w.heap.size w w') : EnsIn w' w'.heap.size sp n cap l :=
 ⟨h.len, h.ok, fun hn => by
  obtain ⟨b, off, e, hlt, hc, hr⟩ := h.cells hn
  exact ⟨b, off, e, Nat.lt_of_lt_of_le hlt hb.size, hc, fun i x hi => range_belowR (hr i x hi) hb hlt⟩⟩
theorem RcIn.below {x : Rc} {w w' : World} (h : RcIn x w) (hb : Below w.heap.size w w') : RcIn x w' := ⟨h.c.upR hb, h.v.up hb, h.m.upR hb, h.p.upR hb, h.b, h.s, h.t⟩
end Go.Proofs.YtecllfbadciaoaaGreatDoor
