/-
  The walk of the tape's Link (condition: the tape can be drawn from 45 times more).
-/
import Derived.Test.YtecllfbadciaoaaGreatDoorZip
import Derived.Test.YtecllfbadciaoaaGreatDoorQ13
set_option maxRecDepth 100000
set_option maxHeartbeats 8000000
namespace Go.Proofs.YtecllfbadciaoaaGreatDoor
open Go.RowKit
def noIntT (cs : Array Value) : Bool := cs.toList.all fun v => match v with | .int _ _ => false | _ => true
theorem range_setT {w : World} {g : Nat} {cs ds : Array Value} {t : TypeId} {b o : Nat} {L : List Value} (hg : w.heap[g]? = some (.cells cs t (0, 0))) (hn : noIntT cs = true) (hL : ∃ (j : Nat) (k : IntKind) (m : Int), L[j]? = some (.int k m)) (h : w.rangeAt b o L) : (w.setRow g ds).rangeAt b o L := by
 have hne : b ≠ g := by
  rintro rfl
  obtain ⟨j, k, m, e⟩ := hL
  have h1 := h j _ e
  rw [cell_of_row w b (o + j) cs t (0, 0) hg] at h1
  have h2 : Value.int k m ∈ cs.toList := by
   obtain ⟨hlt, he⟩ := Array.getElem?_eq_some_iff.1 h1
   rw [← he]; exact Array.getElem_mem_toList hlt
  exact absurd (List.all_eq_true.1 hn _ h2) (by simp)
 intro j v hv
 exact (World.cell?_of_block (w := w) (setRow_other _ _ _ _ hne)).trans (h j v hv)
theorem EnsIn.setT {w : World} {g B : Nat} {cs ds : Array Value} {t : TypeId} {sp : Option Addr} {n cap : Nat} {l : List En} (hg : w.heap[g]? = some (.cells cs t (0, 0))) (hn : noIntT cs = true) (h : EnsIn w B sp n cap l) : EnsIn (w.setRow g ds) B sp n cap l :=
 ⟨h.len, h.ok, fun hp => by
  obtain ⟨b, off, e, hlt, hc, hr⟩ := h.cells hp
  refine ⟨b, off, e, hlt, hc, fun i x hi => range_setT hg hn ?_ (hr i x hi)⟩
  have hok := h.ok x (List.mem_of_getElem? hi)
  obtain ⟨a, r, hd⟩ : ∃ a r, x.d = a :: r := by
   cases hx : x.d with
   | nil => exact absurd (show x.d.length = 32 from hok.1) (by rw [hx]; decide)
   | cons a r => exact ⟨a, r, rfl⟩
  exact ⟨1, .u8, a, by unfold enL; rw [hd]; rfl⟩⟩
def lkL (s : ByteArray) (p q : Value) : List Value := [.string s, p, q]
theorem infoLkA (s : ByteArray) (p q : Value) : (Tryz.prog.info? 46).map (·.size) = some (lkL s p q).toArray.size := by kernel_rfl
theorem oneLk (s : ByteArray) (p1 : Option Addr) (n1 c1 : Nat) (p2 : Option Addr) (n2 c2 : Nat) : (lkL s (.slice p1 n1 c1) (.slice p2 n2 c2)).toArray.all (·.oneCell') = true := by simp [lkL, Value.oneCell']
theorem buildLk (s : ByteArray) (p1 : Option Addr) (n1 c1 : Nat) (p2 : Option Addr) (n2 c2 : Nat) (w : World) : (Instr.build 46 #[(0, .string s), (1, .slice p1 n1 c1), (2, .slice p2 n2 c2)]).run Tryz.prog w = .ok (.agg (lkL s (.slice p1 n1 c1) (.slice p2 n2 c2)).toArray) w := by kernel_rfl
def zLk : Array Value := #[.string ⟨#[]⟩, .slice none 0 0, .slice none 0 0]
theorem link_any (tb q : Nat) (s : ByteArray) (w : World) (ht : Tp w tb (q + 45)) :
 Calls Tryz.prog 26 #[.pointer (some ⟨tb, 0, none⟩), .string s] w fun e w' => ∃ sp n cap l sp' n' cap' l', e = .returned (.agg (lkL s (.slice sp n cap) (.slice sp' n' cap')).toArray) ∧
  EnsIn w' w'.heap.size sp n cap l ∧ ApartT tb sp ∧ n ≤ 5 ∧ EnsIn w' w'.heap.size sp' n' cap' l' ∧ ApartT tb sp' ∧ n' ≤ 8 ∧ Tp w' tb q ∧ Turn tb w w' ∧ Snap l ∧ Snap l' := by
 have HT := zh ht
 clear ht
 go_enter Tryz.func26, Tryz.ntmps26
 go_upto_region 1 with fail
 generalize hw0 : World.alloc w _ = w0
 have hrow : w0.heap[w.heap.size]? = some (.cells zLk 46 (0, 0)) := by rw [← hw0]; exact heap_alloc_new _ _
 have hb0 : Below w.heap.size w w0 := by rw [← hw0]; exact (Below.refl _ _).alloc (Nat.le_refl _) _
 have HT0 : Hid (Tp w0 tb (q + 45)) := HT.out.of hb0
 have HU0 : Hid (Turn tb w w0) := Turn.of hb0
 have HR0 := zh hrow
 have hlt0 : w.heap.size < w0.heap.size := by rw [← hw0]; simp
 have HTL : Hid (tb < w.heap.size) := HT.out.lt
 clear hw0 hrow hb0 HT
 go_wp2_with fail
 refine (snapshot_any tb 5 (q + 19) w0 (HT0.out.le (by omega)) (by omega)).mono ?_
 rintro e w1 ⟨sp, n, cap, l, rfl, he, ha, hsn, hn, ht, hu⟩
 have HE1 := zh he; have HA1 := zh ha; have HS1 := zh hsn; have HN1 := zh hn; have HT1 := zh ht
 have HU1 : Hid (Turn tb w w1) := HU0.out.trans hu
 have HR1 : Hid (w1.heap[w.heap.size]? = some (.cells zLk 46 (0, 0))) := (hu.block _ hlt0 (by have := HTL.out; omega)).trans HR0.out
 have hlt1 : w.heap.size < w1.heap.size := by have := hu.size; omega
 clear he ha hsn hn ht hu HT0 HU0 HR0 hlt0
 go_wp2_with fail
 refine (edit_any tb q sp n cap l w1 HT1.out HE1.out HA1.out HS1.out (by have := HN1.out; omega)).mono ?_
 rintro e w2 ⟨sp', n', cap', l', rfl, he, ha, hsn, hn, ht, hu⟩
 have HE2 := zh he; have HA2 := zh ha; have HT2 := zh ht
 have HN2 : Hid (n' ≤ 8) := by show _ ≤ _; have := HN1.out; omega
 have HS2 : Hid (Snap l') := hsn
 have HE12 : Hid (EnsIn w2 w2.heap.size sp n cap l) := HE1.out.turn HA1.out hu
 have HU2 : Hid (Turn tb w w2) := HU1.out.trans hu
 have HR2 : Hid (w2.heap[w.heap.size]? = some (.cells zLk 46 (0, 0))) := (hu.block _ hlt1 (by have := HTL.out; omega)).trans HR1.out
 clear he ha hsn hn ht hu HT1 HU1 HR1 hlt1 HE1
 have hbl := buildLk s sp n cap sp' n' cap' w2
 go_wp2_with (refine wpList_store_row rfl 46 _ _ rfl w.heap.size (lkL s (.slice sp n cap) (.slice sp' n' cap')).toArray rfl rfl 46 _ HR2.out (infoLkA _ _ _) rfl (oneLk _ _ _ _ _ _ _) ?_)
 generalize hw3 : World.setRow w2 w.heap.size _ = w3
 have hrow : w3.heap[w.heap.size]? = some (.cells (lkL s (.slice sp n cap) (.slice sp' n' cap')).toArray 46 (0, 0)) := by rw [← hw3]; exact setRow_heap _ _ _ _ _ _ HR2.out
 have hU3 : Turn tb w w3 := by rw [← hw3]; exact Turn.setRow HU2.out (Nat.le_refl _) _
 have hoth : ∀ k, k ≠ w.heap.size → w3.heap[k]? = w2.heap[k]? := fun k hk => by rw [← hw3]; exact setRow_other _ _ _ _ hk
 have hsz : w3.heap.size = w2.heap.size := by rw [← hw3]; exact setRow_size _ _ _
 have HBW : Hid (Below w.heap.size w2 w3) := by rw [← hw3]; exact below_setRow (Below.refl _ _) (Nat.le_refl _) _
 have HE3 : Hid (EnsIn w3 w3.heap.size sp n cap l ∧ EnsIn w3 w3.heap.size sp' n' cap' l') := by rw [hsz, ← hw3]; exact ⟨HE12.out.setT HR2.out (by decide), HE2.out.setT HR2.out (by decide)⟩
 clear hw3
 refine bodyPost_ret (results_row1 rfl _ _ _ _ _ _ _ rfl hrow Tryz.underlying46 rfl (infoLkA _ _ _)) rfl ?_
 have hbw : Below w.heap.size w2 w3 := HBW.out
 exact ⟨sp, n, cap, l, sp', n', cap', l', rfl, HE3.out.1, HA1.out, HN1.out, HE3.out.2, HA2.out, HN2.out, HT2.out.ofB hbw HTL.out, hU3, HS1.out, HS2.out⟩
structure Vr where
 n : ByteArray
 v : ByteArray
def vrL (x : Vr) : List Value := [.string x.n, .string x.v]
theorem infoVr (x : Vr) : (Tryz.prog.info? 61).map (·.size) = some (vrL x).length := by kernel_rfl
theorem infoVrA (x : Vr) : (Tryz.prog.info? 61).map (·.size) = some (vrL x).toArray.size := by kernel_rfl
theorem oneVr (x : Vr) : (vrL x).toArray.all (·.oneCell') = true := by simp [vrL, Value.oneCell']
structure VrsIn (w : World) (B : Nat) (sp : Option Addr) (n cap : Nat) (l : List Vr) : Prop where
 len : l.length = n
 cells : 0 < n → ∃ b off, sp = some ⟨b, off, none⟩ ∧ b < B ∧ n ≤ cap ∧ ∀ i x, l[i]? = some x → w.rangeAt b (off + i * 2) (vrL x)
theorem range_belowR {w w' : World} {b o B : Nat} {cs : List Value} (h : w.rangeAt b o cs) (hb : Below B w w') (hlt : b < B) : w'.rangeAt b o cs := fun j v hv => (hb.cell (p := ⟨b, o + j, none⟩) hlt).trans (h j v hv)
theorem VrsIn.below {w w' : World} {B B' : Nat} {sp : Option Addr} {n cap : Nat} {l : List Vr} (h : VrsIn w B sp n cap l) (hb : Below B' w w') (hB : B ≤ B') : VrsIn w' B' sp n cap l :=
 ⟨h.len, fun hn => by
  obtain ⟨b, off, e, hlt, hc, hr⟩ := h.cells hn
  exact ⟨b, off, e, by omega, hc, fun i x hi => range_belowR (hr i x hi) hb (by omega)⟩⟩
theorem VrsIn.up {w w' : World} {sp : Option Addr} {n cap : Nat} {l : List Vr} (h : VrsIn w w.heap.size sp n cap l) (hb : Below w.heap.size w w') : VrsIn w' w'.heap.size sp n cap l :=
 ⟨h.len, fun hn => by
  obtain ⟨b, off, e, hlt, hc, hr⟩ := h.cells hn
  exact ⟨b, off, e, Nat.lt_of_lt_of_le hlt hb.size, hc, fun i x hi => range_belowR (hr i x hi) hb hlt⟩⟩
def lng2 (s : ByteArray) : Bool := decide (200 < s.size)
def cmdB (l : List ByteArray) : Bool := decide (l.length ≤ 16) && !l.any lng2
def vAt (l : List Vr) (i : Nat) : Bool := match l[i]? with
 | none => false
 | some x => nmB x.n.data.toList && !lng2 x.v && (match i with
   | 0 => true
   | j + 1 => match l[j]? with
     | none => false
     | some y => pls y.n x.n)
def vAll (l : List Vr) : Bool := (List.range l.length).all (vAt l)
def envB (l : List Vr) : Bool := decide (l.length ≤ 16) && vAll l
theorem vAll_no {l : List Vr} {i : Nat} (hi : i < l.length) (h : vAt l i = false) : vAll l = false := by
 unfold vAll; rw [List.all_eq_false]; exact ⟨i, List.mem_range.2 hi, by rw [h]; simp⟩
theorem vAll_yes {l : List Vr} {n : Nat} (hn : l.length = n) (h : ∀ j, j < n → vAt l j = true) : vAll l = true := by
 unfold vAll; rw [List.all_eq_true, hn]; exact fun j hj => h j (List.mem_range.1 hj)
theorem vAt_zero {l : List Vr} {x : Vr} (hx : l[0]? = some x) : vAt l 0 = (nmB x.n.data.toList && !lng2 x.v) := by
 unfold vAt; rw [hx]; simp
theorem vAt_succ {l : List Vr} {k : Nat} {x y : Vr} (hx : l[k + 1]? = some x) (hy : l[k]? = some y) : vAt l (k + 1) = (nmB x.n.data.toList && !lng2 x.v && pls y.n x.n) := by
 unfold vAt; rw [hx]; simp only [hy]
theorem vAt_bad {l : List Vr} {k : Nat} {x : Vr} (hx : l[k]? = some x) (h : nmB x.n.data.toList = false ∨ lng2 x.v = true) : vAt l k = false := by
 unfold vAt; rw [hx]; rcases h with h | h <;> simp [h]
theorem cmd_take_succ (l : List ByteArray) (k : Nat) (hk : k < l.length) (h : (l.take k).any lng2 = false) (hc : lng2 l[k] = false) : (l.take (k + 1)).any lng2 = false := by
 rw [List.take_succ_eq_append_getElem hk, List.any_append, h]; simp [hc]
theorem cmd_any (l : List ByteArray) (k : Nat) (hk : k < l.length) (hc : lng2 l[k] = true) : l.any lng2 = true := List.any_eq_true.2 ⟨l[k], List.getElem_mem _, hc⟩
structure Rc where
 run : ByteArray
 scp : ByteArray
 stp : ByteArray
 t : Int
 c1 : Option Addr
 cn : Nat
 cc : Nat
 c : List ByteArray
 v1 : Option Addr
 vn : Nat
 vc : Nat
 v : List Vr
 m1 : Option Addr
 mn : Nat
 mc : Nat
 m : List En
 p1 : Option Addr
 pn : Nat
 pc : Nat
 p : List En
def Rc.L (x : Rc) : List Value := [.string x.run, .string x.scp, .string x.stp, .int .i64 x.t, .slice x.c1 x.cn x.cc, .slice x.v1 x.vn x.vc, .slice x.m1 x.mn x.mc, .slice x.p1 x.pn x.pc]
theorem infoRc (x : Rc) : (Tryz.prog.info? 31).map (·.size) = some x.L.length := by kernel_rfl
theorem infoRcA (x : Rc) : (Tryz.prog.info? 31).map (·.size) = some x.L.toArray.size := by kernel_rfl
theorem oneRc (x : Rc) : x.L.toArray.all (·.oneCell') = true := by simp [Rc.L, Value.oneCell']
structure RcIn (x : Rc) (w : World) : Prop where
 c : StrsIn w w.heap.size x.c1 x.cn x.c
 v : VrsIn w w.heap.size x.v1 x.vn x.vc x.v
 m : EnsIn w w.heap.size x.m1 x.mn x.mc x.m
 p : EnsIn w w.heap.size x.p1 x.pn x.pc x.p
 b : x.run.size ≤ maxLen ∧ x.scp.size ≤ 100000 ∧ x.stp.size ≤ maxLen ∧ x.cn ≤ 1000 ∧ x.vn ≤ 1000 ∧ x.mn ≤ 1000 ∧ x.pn ≤ 1000
 s : (∀ y ∈ x.c, y.size ≤ 100000) ∧ (∀ y ∈ x.v, y.n.size ≤ maxLen ∧ y.v.size ≤ 100000)
 t : -9223372036854775808 ≤ x.t ∧ x.t ≤ 9223372036854775807
theorem StrsIn.upR {w w' : World} {sp : Option Addr} {n : Nat} {l : List ByteArray} (h : StrsIn w w.heap.size sp n l) (hb : Below w.heap.size w w') : StrsIn w' w'.heap.size sp n l := (h.below hb (Nat.le_refl _)).more hb.size
theorem EnsIn.upR {w w' : World} {sp : Option Addr} {n cap : Nat} {l : List En} (h : EnsIn w w.heap.size sp n cap l) (hb : Below w.heap.size w w') : EnsIn w' w'.heap.size sp n cap l :=
 ⟨h.len, h.ok, fun hn => by
  obtain ⟨b, off, e, hlt, hc, hr⟩ := h.cells hn
  exact ⟨b, off, e, Nat.lt_of_lt_of_le hlt hb.size, hc, fun i x hi => range_belowR (hr i x hi) hb hlt⟩⟩
theorem RcIn.below {x : Rc} {w w' : World} (h : RcIn x w) (hb : Below w.heap.size w w') : RcIn x w' := ⟨h.c.upR hb, h.v.up hb, h.m.upR hb, h.p.upR hb, h.b, h.s, h.t⟩
def rcA (x : Rc) : Bool := nmB x.run.data.toList && scpB x.scp && nmB x.stp.data.toList
def rcT (x : Rc) : Bool := decide (0 ≤ x.t) && decide (x.t ≤ 1099511627776)
def rcB (x : Rc) : Bool := rcA x && (rcT x && (cmdB x.c && (envB x.v && (vldE x.m && vldE x.p))))
end Go.Proofs.YtecllfbadciaoaaGreatDoor
