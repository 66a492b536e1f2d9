/-
  The statements' made of layer 12: the draw of a record's fields, operation by operation (conditions in each lemma).
-/
import Derived.Test.YtecllfbadciaoaaGreatDoorZip
import Derived.Test.YtecllfbadciaoaaGreatDoorQ15
set_option maxRecDepth 100000
set_option maxHeartbeats 8000000
namespace Go.Proofs.YtecllfbadciaoaaGreatDoor
open Go.RowKit
def zRc : Array Value := #[.string ⟨#[]⟩, .string ⟨#[]⟩, .string ⟨#[]⟩, .int .i64 0, .slice none 0 0, .slice none 0 0, .slice none 0 0, .slice none 0 0]
def runsL : List ByteArray := [⟨#[114, 117, 110, 45, 49]⟩, ⟨#[114, 117, 110, 45, 50]⟩, ⟨#[57]⟩]
def scpsL : List ByteArray := [⟨#[]⟩, ⟨#[98, 117, 105, 108, 100]⟩, ⟨#[97, 47, 98, 47, 99]⟩, ⟨#[97, 47, 98, 47, 99, 47, 100]⟩]
def stpsL : List ByteArray := [⟨#[98, 117, 105, 108, 100]⟩, ⟨#[116, 101, 115, 116]⟩]
theorem sliceRun (w : World) : (Instr.buildSlice 27 3 #[(0, .string ⟨#[114, 117, 110, 45, 49]⟩), (1, .string ⟨#[114, 117, 110, 45, 50]⟩), (2, .string ⟨#[57]⟩)]).run Tryz.prog w = .ok (.slice (some ⟨w.heap.size, 0, none⟩) 3 3) (w.alloc (.cells (([⟨#[114, 117, 110, 45, 49]⟩, ⟨#[114, 117, 110, 45, 50]⟩, ⟨#[57]⟩] : List ByteArray).map Value.string).toArray 9)) := by kernel_rfl
theorem sliceScp (w : World) : (Instr.buildSlice 27 4 #[(0, .string ⟨#[]⟩), (1, .string ⟨#[98, 117, 105, 108, 100]⟩), (2, .string ⟨#[97, 47, 98, 47, 99]⟩), (3, .string ⟨#[97, 47, 98, 47, 99, 47, 100]⟩)]).run Tryz.prog w = .ok (.slice (some ⟨w.heap.size, 0, none⟩) 4 4) (w.alloc (.cells (([⟨#[]⟩, ⟨#[98, 117, 105, 108, 100]⟩, ⟨#[97, 47, 98, 47, 99]⟩, ⟨#[97, 47, 98, 47, 99, 47, 100]⟩] : List ByteArray).map Value.string).toArray 9)) := by kernel_rfl
theorem sliceStp (w : World) : (Instr.buildSlice 27 2 #[(0, .string ⟨#[98, 117, 105, 108, 100]⟩), (1, .string ⟨#[116, 101, 115, 116]⟩)]).run Tryz.prog w = .ok (.slice (some ⟨w.heap.size, 0, none⟩) 2 2) (w.alloc (.cells (([⟨#[98, 117, 105, 108, 100]⟩, ⟨#[116, 101, 115, 116]⟩] : List ByteArray).map Value.string).toArray 9)) := by kernel_rfl
def SlT (tb : Nat) (l : List ByteArray) (v : Value) (w : World) : Prop := ∃ g, v = .slice (some ⟨g, 0, none⟩) l.length l.length ∧ g ≠ tb ∧ w.heap[g]? = some (.cells (l.map Value.string).toArray 9 (0, 0))
theorem SlT.turn {tb : Nat} {l : List ByteArray} {v : Value} {w w' : World} (h : SlT tb l v w) (hu : Turn tb w w') : SlT tb l v w' := by
 obtain ⟨g, h1, h2, h3⟩ := h
 exact ⟨g, h1, h2, (hu.block g (Array.getElem?_eq_some_iff.1 h3).1 h2).trans h3⟩
structure MdF (tb : Nat) (w0 : World) (s1 p1 s2 p2 s3 p3 nn al : Bool) (v4 v9 v10 v12 v13 v15 v16 v18 : Value) (w : World) : Prop where
 tu : Turn tb w0 w
 i1 : p1 = true → s1 = true
 i2 : p2 = true → p1 = true ∧ s2 = true
 i3 : p3 = true → p2 = true ∧ s3 = true
 iN : nn = true → p3 = true
 f1 : s1 = true → SlT tb runsL v9 w
 f2 : s2 = true → SlT tb scpsL v12 w
 f3 : s3 = true → SlT tb stpsL v15 w
 g1 : p1 = true → ∃ s ∈ runsL, v10 = .string s
 g2 : p2 = true → ∃ s ∈ scpsL, v13 = .string s
 g3 : p3 = true → ∃ s ∈ stpsL, v16 = .string s
 gn : nn = true → ∃ r : Nat, r < 50 ∧ v18 = .int .i64 r
 fa : al = true → ∃ g, v4 = .pointer (some ⟨g, 0, none⟩) ∧ g ≠ tb ∧ w0.heap.size ≤ g ∧ w.heap[g]? = some (.cells zRc 31 (0, 0))
theorem MdF.move {tb : Nat} {w0 : World} {s1 p1 s2 p2 s3 p3 nn al : Bool} {v4 v9 v10 v12 v13 v15 v16 v18 : Value} {w w' : World} (h : MdF tb w0 s1 p1 s2 p2 s3 p3 nn al v4 v9 v10 v12 v13 v15 v16 v18 w) (hu : Turn tb w w') : MdF tb w0 s1 p1 s2 p2 s3 p3 nn al v4 v9 v10 v12 v13 v15 v16 v18 w' :=
 ⟨h.tu.trans hu, h.i1, h.i2, h.i3, h.iN, fun e => (h.f1 e).turn hu, fun e => (h.f2 e).turn hu, fun e => (h.f3 e).turn hu, h.g1, h.g2, h.g3, h.gn, fun e => by
  obtain ⟨g, h1, h2, h3, h4⟩ := h.fa e
  exact ⟨g, h1, h2, h3, (hu.block g (Array.getElem?_eq_some_iff.1 h4).1 h2).trans h4⟩⟩
def mdT (tb gl gr : Nat) (sp : Option Addr) (n cap : Nat) (sp' : Option Addr) (n' cap' : Nat) (v4 v9 v10 v12 v13 v15 v16 v18 : Value) : Act :=
 { tmps := #[.pointer (some ⟨tb, 0, none⟩), undef, .pointer (some ⟨gr, 0, none⟩), .pointer (some ⟨gl, 0, none⟩), v4, undef, .pointer (some ⟨tb, 0, none⟩), .agg (lkL ⟨#[]⟩ (.slice sp n cap) (.slice sp' n' cap')).toArray, .pointer (some ⟨tb, 0, none⟩), v9, v10, .pointer (some ⟨tb, 0, none⟩), v12, v13, .pointer (some ⟨tb, 0, none⟩), v15, v16, .pointer (some ⟨tb, 0, none⟩), v18, .pointer (some ⟨gl, 1, none⟩), .slice sp n cap, .pointer (some ⟨gl, 2, none⟩), .slice sp' n' cap', undef, undef, undef, undef, undef, undef, undef, undef, undef, undef, undef, undef, undef, undef, undef, undef, undef, undef, undef, undef, undef, undef, undef, undef, undef, undef], defers := [] }
def mdL (s1 p1 s2 p2 s3 p3 nn al : Bool) : Array Bool := #[true, s1, p1, true, s2, p2, true, s3, p3, true, nn, true, true, true, true, false, al, false]
def LkS (gl : Nat) (m p : Value) (w : World) : Prop := w.heap[gl]? = some (.cells (lkL ⟨#[]⟩ m p).toArray 46 (0, 0))
theorem LkS.turn {tb gl : Nat} {m p : Value} {w w' : World} (h : LkS gl m p w) (hG : gl ≠ tb) (hu : Turn tb w w') : LkS gl m p w' := (hu.block gl (Array.getElem?_eq_some_iff.1 h).1 hG).trans h
def mdI (tb q gl gr : Nat) (sp : Option Addr) (n cap : Nat) (sp' : Option Addr) (n' cap' : Nat) (w0 : World) (nf : Nat) (listed : Array Bool) (a : Act) (w : World) : Prop :=
 ∃ s1 p1 s2 p2 s3 p3 nn al v4 v9 v10 v12 v13 v15 v16 v18, nf = (!s1).toNat + (!p1).toNat + (!s2).toNat + (!p2).toNat + (!s3).toNat + (!p3).toNat + (!nn).toNat + (!al).toNat + 2 ∧ listed = mdL s1 p1 s2 p2 s3 p3 nn al ∧
  a = mdT tb gl gr sp n cap sp' n' cap' v4 v9 v10 v12 v13 v15 v16 v18 ∧ Tp w tb (q + 6 + ((!p1).toNat + (!p2).toNat + (!p3).toNat + (!nn).toNat)) ∧ MdF tb w0 s1 p1 s2 p2 s3 p3 nn al v4 v9 v10 v12 v13 v15 v16 v18 w ∧ LkS gl (.slice sp n cap) (.slice sp' n' cap') w
def mdR (x1 x2 x3 : ByteArray) (r : Int) (sp : Option Addr) (n cap : Nat) (sp' : Option Addr) (n' cap' : Nat) : Array Value := #[.string x1, .string x2, .string x3, .int .i64 r, .slice none 0 0, .slice none 0 0, .slice sp n cap, .slice sp' n' cap']
theorem buildRc (x1 x2 x3 : ByteArray) (r : Int) (sp : Option Addr) (n cap : Nat) (sp' : Option Addr) (n' cap' : Nat) (w : World) : (Instr.build 31 #[(0, .string x1), (1, .string x2), (2, .string x3), (3, .int .i64 r), (6, .slice sp n cap), (7, .slice sp' n' cap')]).run Tryz.prog w = .ok (.agg (mdR x1 x2 x3 r sp n cap sp' n' cap')) w := by kernel_rfl
theorem infoMdR (x1 x2 x3 : ByteArray) (r : Int) (sp : Option Addr) (n cap : Nat) (sp' : Option Addr) (n' cap' : Nat) : (Tryz.prog.info? 31).map (·.size) = some (mdR x1 x2 x3 r sp n cap sp' n' cap').size := by kernel_rfl
theorem oneMdR (x1 x2 x3 : ByteArray) (r : Int) (sp : Option Addr) (n cap : Nat) (sp' : Option Addr) (n' cap' : Nat) : (mdR x1 x2 x3 r sp n cap sp' n' cap').all (·.oneCell') = true := by simp [mdR, Value.oneCell']
theorem yieldsIf_buildI {P : Program} {ops : Array Oper} {S : World → Prop} {op : Oper} {a : Act} (hw : Region.wanted op (yielded ops a.tmps) = true) (t : TypeId) (parts : List (Nat × Operand)) (ho : op.op = .build t parts.toArray)
 (vs : List (Nat × Value)) (hv : (parts.map fun (i, x) => (i, a.eval x)) = vs) (v : Value) (hrun : ∀ w, S w → (Instr.build t vs.toArray).run P w = .ok v w) : YieldsIf P ops S op v a :=
 .inl ⟨hw, fun w hw' => by
  unfold execOp
  simp only [ho, Sem.run_bind, List.map_toArray, hv, hrun w hw', Result.andThen_ok, Sem.run_pure]⟩
structure Md12 (x : Rc) : Prop where
 pn : x.pn ≤ 8
 mn : x.mn ≤ 5
 run : x.run ∈ runsL
 scp : x.scp ∈ scpsL
 stp : x.stp ∈ stpsL
 t : 0 ≤ x.t ∧ x.t < 50
 c : x.c.length ≤ 4 ∧ ∀ y ∈ x.c, y.size ≤ 10
 v : x.v = [] ∨ ∃ s ∈ gccL, x.v = [⟨ccB, s⟩, ⟨paB, xxB⟩]
 m : Snap x.m
 p : Snap x.p
theorem EnvT.what {B : Nat} {v1 : Option Addr} {vn vc : Nat} {vl : List Vr} {w : World} (h : EnvT B v1 vn vc vl w) : vl = [] ∨ ∃ s ∈ gccL, vl = [⟨ccB, s⟩, ⟨paB, xxB⟩] := by
 rcases h with ⟨_, _, _, h⟩ | ⟨ge, s, h1, _, _, _, h, _⟩
 ·exact .inl h
 ·exact .inr ⟨s, h1, h⟩
theorem runsL_len : ∀ s ∈ runsL, s.size ≤ 10 := by decide
theorem scpsL_len : ∀ s ∈ scpsL, s.size ≤ 10 := by decide
theorem stpsL_len : ∀ s ∈ stpsL, s.size ≤ 10 := by decide
def rcM (x1 x2 x3 : ByteArray) (r : Nat) (sq : Option Addr) (cq : Nat) (l1 : List ByteArray) (v1 : Option Addr) (vn vc : Nat) (vl : List Vr) (sp : Option Addr) (n cap : Nat) (l : List En) (sp' : Option Addr) (n' cap' : Nat) (l' : List En) : Rc :=
 ⟨x1, x2, x3, r, sq, l1.length, cq, l1, v1, vn, vc, vl, sp, n, cap, l, sp', n', cap', l'⟩
theorem zRc_noByte : noByte zRc = true := by decide
theorem fin12 (tb q g : Nat) (w w2 wF : World) (x1 x2 x3 : ByteArray) (r : Nat) (sq : Option Addr) (cq : Nat) (l1 : List ByteArray) (v1 : Option Addr) (vn vc : Nat) (vl : List Vr) (sp : Option Addr) (n cap : Nat) (l : List En) (sp' : Option Addr) (n' cap' : Nat) (l' : List En)
 (htl : tb < w.heap.size) (hu : Turn tb w w2) (hr2 : w2.heap[w.heap.size]? = some (.cells zRc 31 (0, 0))) (he : EnsIn w2 w2.heap.size sp n cap l) (he' : EnsIn w2 w2.heap.size sp' n' cap' l') (ha : ApartT tb sp) (ha' : ApartT tb sp') (hn : n ≤ 5) (hn' : n' ≤ 8)
 (hx : x1 ∈ runsL ∧ x2 ∈ scpsL ∧ x3 ∈ stpsL ∧ r < 50) (hc : CmT tb g w2.heap.size q w2 (.slice sq l1.length cq) l1 (mdC x1 x2 x3 (r : Int) (.slice sq l1.length cq) (.slice v1 vn vc) sp n cap sp' n' cap').toArray wF) (hl : l1.length ≤ 4 ∧ ∀ y ∈ l1, y.size ≤ 10) (hv : EnvT w2.heap.size v1 vn vc vl wF) :
 wF.heap[w.heap.size]? = some (.cells zRc 31 (0, 0)) ∧ RcIn (rcM x1 x2 x3 r sq cq l1 v1 vn vc vl sp n cap l sp' n' cap' l') (wF.setRow w.heap.size (rcM x1 x2 x3 r sq cq l1 v1 vn vc vl sp n cap l sp' n' cap' l').L.toArray) ∧ Tp (wF.setRow w.heap.size (rcM x1 x2 x3 r sq cq l1 v1 vn vc vl sp n cap l sp' n' cap' l').L.toArray) tb q ∧ Turn tb w (wF.setRow w.heap.size (rcM x1 x2 x3 r sq cq l1 v1 vn vc vl sp n cap l sp' n' cap' l').L.toArray) := by
 have hlt := (Array.getElem?_eq_some_iff.1 hr2).1
 have hrF : wF.heap[w.heap.size]? = some (.cells zRc 31 (0, 0)) := (hc.tu.block _ hlt (by omega)).trans hr2
 generalize hrow : (rcM x1 x2 x3 r sq cq l1 v1 vn vc vl sp n cap l sp' n' cap' l').L.toArray = row
 have hs := setRow_size wF w.heap.size row
 have hob : ∀ b, w2.heap.size ≤ b → (wF.setRow w.heap.size row).heap[b]? = wF.heap[b]? := fun b hb => setRow_other _ _ _ _ (by omega)
 refine ⟨hrF, ⟨?_, ?_, ?_, ?_, ?_, ?_, ?_⟩, ?_, ?_⟩
 ·exact own_strsQ (own_keptQ hc.own fun b _ hb _ => hob b hb)
 ·exact (hv.kept fun b _ hb _ => hob b hb).vrs
 ·rw [hs]; exact (he.turn ha hc.tu).setQ hrF zRc_noByte
 ·rw [hs]; exact (he'.turn ha' hc.tu).setQ hrF zRc_noByte
 ·have h1 := runsL_len _ hx.1
  have h2 := scpsL_len _ hx.2.1
  have h3 := stpsL_len _ hx.2.2.1
  have h4 := hv.small.1
  refine ⟨?_, ?_, ?_, ?_, ?_, ?_, ?_⟩ <;> simp only [rcM, maxLen] <;> omega
 ·refine ⟨fun y hy => ?_, fun y hy => ?_⟩
  ·have := hl.2 y hy; omega
  ·have := hv.small.2 y hy
   unfold maxLen
   omega
 ·simp only [rcM]; omega
 ·exact hc.tp.ofB (below_setRow (Below.refl _ _) (Nat.le_refl _) _) htl
 ·exact Turn.setRow (hu.trans hc.tu) (Nat.le_refl _) _
theorem made12_any (tb q : Nat) (w : World) (ht : Tp w tb (q + 55)) :
 Calls Tryz.prog 7 #[.pointer (some ⟨tb, 0, none⟩)] w fun e w' => ∃ x : Rc, e = .returned (.agg x.L.toArray) ∧ RcIn x w' ∧ Md12 x ∧ Tp w' tb q ∧ Turn tb w w' := by
 have HT := zh ht
 have HTL : Hid (tb < w.heap.size) := ht.lt
 clear ht
 go_enter Tryz.func7, Tryz.ntmps7
 go_upto_region 1 with fail
 generalize hw0 : World.alloc w _ = w0
 have hb0 : Below w.heap.size w w0 := by rw [← hw0]; exact (Below.refl _ _).alloc (Nat.le_refl _) _
 have HR0 : Hid (w0.heap[w.heap.size]? = some (.cells zRc 31 (0, 0))) := by rw [← hw0]; exact heap_alloc_new _ _
 have HU0 : Hid (Turn tb w w0) := Turn.of hb0
 have HT0 : Hid (Tp w0 tb (q + 55)) := HT.out.of hb0
 have hlt0 : w.heap.size < w0.heap.size := by rw [← hw0]; simp
 clear hw0 hb0 HT
 go_wp2_with fail
 refine (link_any tb (q + 10) _ w0 (HT0.out.le (by omega))).mono ?_
 rintro e w1 ⟨sp, n, cap, l, sp', n', cap', l', rfl, he, ha, hn, he', ha', hn', ht, hu, hsn1, hsn2⟩
 have HSN : Hid (Snap l ∧ Snap l') := ⟨hsn1, hsn2⟩
 have HE := zh he; have HE' := zh he'; have HA := zh ha; have HA' := zh ha'; have HN := zh hn; have HN' := zh hn'
 have HU1 : Hid (Turn tb w w1) := HU0.out.trans hu
 have HT1 := zh ht
 have HR1 : Hid (w1.heap[w.heap.size]? = some (.cells zRc 31 (0, 0))) := (hu.block _ hlt0 (by have := HTL.out; omega)).trans HR0.out
 clear he he' ha ha' hn hn' ht hu HU0 HT0 HR0 hlt0 hsn1 hsn2
 go_upto_region 2 with (refine wpList_store_row rfl 46 _ _ rfl w1.heap.size (lkL ⟨#[]⟩ (.slice sp n cap) (.slice sp' n' cap')).toArray rfl rfl 46 _ (heap_alloc_new w1 _) (infoLkA _ _ _) rfl (oneLk _ _ _ _ _ _ _) ?_; rw [setRow_new])
 generalize hw2 : World.alloc w1 _ = w2
 have hb2 : Below w1.heap.size w1 w2 := by rw [← hw2]; exact (Below.refl _ _).alloc (Nat.le_refl _) _
 have HLK : Hid (LkS w1.heap.size (.slice sp n cap) (.slice sp' n' cap') w2) := by show LkS _ _ _ _; rw [← hw2]; exact heap_alloc_new _ _
 have HT2 : Hid (Tp w2 tb (q + 10)) := HT1.out.of hb2
 have HU2 : Hid (Turn tb w w2) := HU1.out.trans (Turn.of hb2)
 have HE2 : Hid (EnsIn w2 w2.heap.size sp n cap l) := HE.out.upR hb2
 have HE2' : Hid (EnsIn w2 w2.heap.size sp' n' cap' l') := HE'.out.upR hb2
 have HR2 : Hid (w2.heap[w.heap.size]? = some (.cells zRc 31 (0, 0))) := (hb2.block _ (Array.getElem?_eq_some_iff.1 HR1.out).1).trans HR1.out
 obtain ⟨gl, hgl⟩ : ∃ gl, gl = w1.heap.size := ⟨_, rfl⟩
 rw [← hgl] at HLK
 rw [← hgl]
 have HG : Hid (gl ≠ tb) := by show _ ≠ _; have h1 := HTL.out; have h2 := HU1.out.size; omega
 clear hw2 hb2 hgl HT1 HU1 HE HE' HR1
 try simp only [Act.put, zuA, zuB, zuC, zuD, zuY, zuF]
 refine id ?_
 go_cut [4] (fun s4 wx => ∃ g s1 s2 s3 r, s4 = .pointer (some ⟨g, 0, none⟩) ∧ s1 ∈ runsL ∧ s2 ∈ scpsL ∧ s3 ∈ stpsL ∧ r < 50 ∧ g ≠ tb ∧ w2.heap.size ≤ g ∧ wx.heap[g]? = some (.cells #[.string s1, .string s2, .string s3, .int .i64 ((r : Nat) : Int), .slice none 0 0, .slice none 0 0, .slice sp n cap, .slice sp' n' cap'] 31 (0, 0)) ∧ Tp wx tb (q + 6) ∧ Turn tb w2 wx)
 case first =>
  refine wp_region_held_drew (S := fun w' => LkS gl (.slice sp n cap) (.slice sp' n' cap') w') (by kernel_rfl) HLK.out (fun hHeld => ?_)
  refine zv 0 rfl ?_
  refine zv 3 rfl ?_
  refine zv 6 rfl ?_
  refine zv 9 rfl ?_
  refine zv 11 rfl ?_
  refine zx 12 rfl (v := ?_) ?_ ?_; rotate_left
  ·intro w' hSw; have k1 : w'.cell? ⟨gl, 1, none⟩ = _ := heap_cellR hSw (j := 1) rfl; go_simp; try with_reducible rfl
  refine zv 13 rfl ?_
  refine zx 14 rfl (v := ?_) ?_ ?_; rotate_left
  ·intro w' hSw; have k1 : w'.cell? ⟨gl, 2, none⟩ = _ := heap_cellR hSw (j := 2) rfl; go_simp; try with_reducible rfl
  have hI0 : mdI tb q gl w.heap.size sp n cap sp' n' cap' w2 10 (mdL false false false false false false false false) (mdT tb gl w.heap.size sp n cap sp' n' cap' undef undef undef undef undef undef undef undef) w2.drew :=
   ⟨false, false, false, false, false, false, false, false, undef, undef, undef, undef, undef, undef, undef, undef, rfl, rfl, rfl, HT2.out.ofB (Below.refl w2.heap.size w2).drew HT2.out.lt, ⟨Turn.of (Below.refl w2.heap.size w2).drew, nofun, nofun, nofun, nofun, nofun, nofun, nofun, nofun, nofun, nofun, nofun, nofun⟩, HLK.out⟩
  refine wpAnyH_inv (mdI tb q gl w.heap.size sp n cap sp' n' cap' w2) ?_ 10 _ _ _ hI0
  clear hI0
  have hG := HG.out
  rintro nf listed a wv ⟨s1, p1, s2, p2, s3, p3, nn, al, v4, v9, v10, v12, v13, v15, v16, v18, hn, rfl, rfl, hT, hF, hS⟩
  cases nn
  ·refine .inr ⟨nf - 1, by simp only [Bool.not_false, Bool.toNat_true] at hn; omega, ?_, fun i hi => ?_⟩
   ·cases al
    ·exact ready_of (i := 16) (by decide) (by kernel_rfl)
    cases s1
    ·exact ready_of (i := 1) (by decide) (by kernel_rfl)
    cases s2
    ·exact ready_of (i := 4) (by decide) (by kernel_rfl)
    cases s3
    ·exact ready_of (i := 7) (by decide) (by kernel_rfl)
    cases p1
    ·exact ready_of (i := 2) (by decide) (by kernel_rfl)
    cases p2
    ·exact ready_of (i := 5) (by decide) (by kernel_rfl)
    cases p3
    ·exact ready_of (i := 8) (by decide) (by kernel_rfl)
    ·exact ready_of (i := 10) (by decide) (by kernel_rfl)
   ·have hc := canB_of hi
    have hlt : i < 18 := can_lt hi
    clear hi
    rcases (by omega : i = 0 ∨ i = 1 ∨ i = 2 ∨ i = 3 ∨ i = 4 ∨ i = 5 ∨ i = 6 ∨ i = 7 ∨ i = 8 ∨ i = 9 ∨ i = 10 ∨ i = 11 ∨ i = 12 ∨ i = 13 ∨ i = 14 ∨ i = 15 ∨ i = 16 ∨ i = 17) with rfl | rfl | rfl | rfl | rfl | rfl | rfl | rfl | rfl | rfl | rfl | rfl | rfl | rfl | rfl | rfl | rfl | rfl
    ·exact absurd hc (by rw [show canB _ _ _ 0 = false from by kernel_rfl] <;> simp)
    ·obtain rfl : s1 = false := by
      cases s1
      ·rfl
      ·exact absurd hc (by rw [show canB _ _ _ 1 = false from by kernel_rfl] <;> simp)
     refine wpOp_step (o := _) rfl (fun K hK => ?_)
     rw [if_pos (by rfl)]
     refine wp_slice_eqR 27 3 [(0, .const (.string ⟨#[114, 117, 110, 45, 49]⟩)), (1, .const (.string ⟨#[114, 117, 110, 45, 50]⟩)), (2, .const (.string ⟨#[57]⟩))] rfl [(0, .string ⟨#[114, 117, 110, 45, 49]⟩), (1, .string ⟨#[114, 117, 110, 45, 50]⟩), (2, .string ⟨#[57]⟩)] rfl _ _ (sliceRun _) ?_
     have hb : Below wv.heap.size wv (wv.alloc (.cells (([⟨#[114, 117, 110, 45, 49]⟩, ⟨#[114, 117, 110, 45, 50]⟩, ⟨#[57]⟩] : List ByteArray).map Value.string).toArray 9)) := (Below.refl _ _).alloc (Nat.le_refl _) _
     have hM := hF.move (Turn.of hb)
     refine hK _ _ ⟨hS.turn hG (Turn.of hb), ?_⟩
     exact ⟨true, p1, s2, p2, s3, p3, false, al, v4, .slice (some ⟨wv.heap.size, 0, none⟩) 3 3, v10, v12, v13, v15, v16, v18, by simp only [Bool.not_true, Bool.not_false, Bool.toNat_true, Bool.toNat_false] at hn ⊢; omega, rfl, rfl, hT.of hb, ⟨hM.tu, fun _ => rfl, hM.i2, hM.i3, hM.iN, fun _ => ⟨wv.heap.size, rfl, by have := hT.lt; omega, heap_alloc_new wv _⟩, hM.f2, hM.f3, hM.g1, hM.g2, hM.g3, hM.gn, hM.fa⟩, hS.turn hG (Turn.of hb)⟩
    ·obtain rfl : p1 = false := by
      cases p1
      ·rfl
      ·exact absurd hc (by rw [show canB _ _ _ 2 = false from by kernel_rfl] <;> simp)
     obtain rfl : s1 = true := by
      cases s1
      ·exact absurd hc (by rw [show canB _ _ _ 2 = false from by kernel_rfl] <;> simp)
      ·rfl
     obtain ⟨g, rfl, hgt, hgr⟩ := hF.f1 rfl
     refine wpOp_step (o := _) rfl (fun K hK => ?_)
     rw [if_pos (by rfl)]
     replace hK := zh hK
     unfold mdT
     have hC := pick_any tb (q + 6 + ((!p2).toNat + (!p3).toNat + 1)) g runsL.length runsL wv ((hT).le (by simp only [Bool.not_true, Bool.not_false, Bool.toNat_true, Bool.toNat_false]; omega)) rfl (by decide) (by decide) (Array.getElem?_eq_some_iff.1 hgr).1 hgt (fun j s hj => heap_cellR hgr (by rw [List.getElem?_map, hj]; rfl))
     go_simp
     with_reducible refine hC.mono ?_
     rintro e wn ⟨s, hs, rfl, ht, hu⟩
     have hM := hF.move hu
     go_wp2_with fail
     refine hK.out _ _ ⟨hS.turn hG hu, ?_⟩
     exact ⟨true, true, s2, p2, s3, p3, false, al, v4, (.slice (some ⟨g, 0, none⟩) runsL.length runsL.length), .string s, v12, v13, v15, v16, v18, by simp only [Bool.not_true, Bool.not_false, Bool.toNat_true, Bool.toNat_false] at hn ⊢; omega, rfl, rfl, (ht).le (by simp only [Bool.not_true, Bool.not_false, Bool.toNat_true, Bool.toNat_false]; omega), ⟨hM.tu, fun _ => rfl, fun h => ⟨rfl, (hM.i2 h).2⟩, hM.i3, hM.iN, hM.f1, hM.f2, hM.f3, fun _ => ⟨s, hs, rfl⟩, hM.g2, hM.g3, hM.gn, hM.fa⟩, hS.turn hG hu⟩
    ·exact absurd hc (by rw [show canB _ _ _ 3 = false from by kernel_rfl] <;> simp)
    ·obtain rfl : s2 = false := by
      cases s2
      ·rfl
      ·exact absurd hc (by rw [show canB _ _ _ 4 = false from by kernel_rfl] <;> simp)
     refine wpOp_step (o := _) rfl (fun K hK => ?_)
     rw [if_pos (by rfl)]
     refine wp_slice_eqR 27 4 [(0, .const (.string ⟨#[]⟩)), (1, .const (.string ⟨#[98, 117, 105, 108, 100]⟩)), (2, .const (.string ⟨#[97, 47, 98, 47, 99]⟩)), (3, .const (.string ⟨#[97, 47, 98, 47, 99, 47, 100]⟩))] rfl [(0, .string ⟨#[]⟩), (1, .string ⟨#[98, 117, 105, 108, 100]⟩), (2, .string ⟨#[97, 47, 98, 47, 99]⟩), (3, .string ⟨#[97, 47, 98, 47, 99, 47, 100]⟩)] rfl _ _ (sliceScp _) ?_
     have hb : Below wv.heap.size wv (wv.alloc (.cells (([⟨#[]⟩, ⟨#[98, 117, 105, 108, 100]⟩, ⟨#[97, 47, 98, 47, 99]⟩, ⟨#[97, 47, 98, 47, 99, 47, 100]⟩] : List ByteArray).map Value.string).toArray 9)) := (Below.refl _ _).alloc (Nat.le_refl _) _
     have hM := hF.move (Turn.of hb)
     refine hK _ _ ⟨hS.turn hG (Turn.of hb), ?_⟩
     exact ⟨s1, p1, true, p2, s3, p3, false, al, v4, v9, v10, .slice (some ⟨wv.heap.size, 0, none⟩) 4 4, v13, v15, v16, v18, by simp only [Bool.not_true, Bool.not_false, Bool.toNat_true, Bool.toNat_false] at hn ⊢; omega, rfl, rfl, hT.of hb, ⟨hM.tu, hM.i1, fun h => ⟨(hM.i2 h).1, rfl⟩, hM.i3, hM.iN, hM.f1, fun _ => ⟨wv.heap.size, rfl, by have := hT.lt; omega, heap_alloc_new wv _⟩, hM.f3, hM.g1, hM.g2, hM.g3, hM.gn, hM.fa⟩, hS.turn hG (Turn.of hb)⟩
    ·obtain rfl : p2 = false := by
      cases p2
      ·rfl
      ·exact absurd hc (by rw [show canB _ _ _ 5 = false from by kernel_rfl] <;> simp)
     obtain rfl : p1 = true := by
      cases p1
      ·exact absurd hc (by cases s2 <;> rw [show canB _ _ _ 5 = false from by kernel_rfl] <;> simp)
      ·rfl
     obtain rfl : s2 = true := by
      cases s2
      ·exact absurd hc (by rw [show canB _ _ _ 5 = false from by kernel_rfl] <;> simp)
      ·rfl
     obtain ⟨g, rfl, hgt, hgr⟩ := hF.f2 rfl
     refine wpOp_step (o := _) rfl (fun K hK => ?_)
     rw [if_pos (by rfl)]
     replace hK := zh hK
     unfold mdT
     have hC := pick_any tb (q + 6 + ((!p3).toNat + 1)) g scpsL.length scpsL wv ((hT).le (by simp only [Bool.not_true, Bool.not_false, Bool.toNat_true, Bool.toNat_false]; omega)) rfl (by decide) (by decide) (Array.getElem?_eq_some_iff.1 hgr).1 hgt (fun j s hj => heap_cellR hgr (by rw [List.getElem?_map, hj]; rfl))
     go_simp
     with_reducible refine hC.mono ?_
     rintro e wn ⟨s, hs, rfl, ht, hu⟩
     have hM := hF.move hu
     go_wp2_with fail
     refine hK.out _ _ ⟨hS.turn hG hu, ?_⟩
     exact ⟨s1, true, true, true, s3, p3, false, al, v4, v9, v10, (.slice (some ⟨g, 0, none⟩) scpsL.length scpsL.length), .string s, v15, v16, v18, by simp only [Bool.not_true, Bool.not_false, Bool.toNat_true, Bool.toNat_false] at hn ⊢; omega, rfl, rfl, (ht).le (by simp only [Bool.not_true, Bool.not_false, Bool.toNat_true, Bool.toNat_false]; omega), ⟨hM.tu, hM.i1, fun _ => ⟨rfl, rfl⟩, fun h => ⟨rfl, (hM.i3 h).2⟩, hM.iN, hM.f1, hM.f2, hM.f3, hM.g1, fun _ => ⟨s, hs, rfl⟩, hM.g3, hM.gn, hM.fa⟩, hS.turn hG hu⟩
    ·exact absurd hc (by rw [show canB _ _ _ 6 = false from by kernel_rfl] <;> simp)
    ·obtain rfl : s3 = false := by
      cases s3
      ·rfl
      ·exact absurd hc (by rw [show canB _ _ _ 7 = false from by kernel_rfl] <;> simp)
     refine wpOp_step (o := _) rfl (fun K hK => ?_)
     rw [if_pos (by rfl)]
     refine wp_slice_eqR 27 2 [(0, .const (.string ⟨#[98, 117, 105, 108, 100]⟩)), (1, .const (.string ⟨#[116, 101, 115, 116]⟩))] rfl [(0, .string ⟨#[98, 117, 105, 108, 100]⟩), (1, .string ⟨#[116, 101, 115, 116]⟩)] rfl _ _ (sliceStp _) ?_
     have hb : Below wv.heap.size wv (wv.alloc (.cells (([⟨#[98, 117, 105, 108, 100]⟩, ⟨#[116, 101, 115, 116]⟩] : List ByteArray).map Value.string).toArray 9)) := (Below.refl _ _).alloc (Nat.le_refl _) _
     have hM := hF.move (Turn.of hb)
     refine hK _ _ ⟨hS.turn hG (Turn.of hb), ?_⟩
     exact ⟨s1, p1, s2, p2, true, p3, false, al, v4, v9, v10, v12, v13, .slice (some ⟨wv.heap.size, 0, none⟩) 2 2, v16, v18, by simp only [Bool.not_true, Bool.not_false, Bool.toNat_true, Bool.toNat_false] at hn ⊢; omega, rfl, rfl, hT.of hb, ⟨hM.tu, hM.i1, hM.i2, fun h => ⟨(hM.i3 h).1, rfl⟩, hM.iN, hM.f1, hM.f2, fun _ => ⟨wv.heap.size, rfl, by have := hT.lt; omega, heap_alloc_new wv _⟩, hM.g1, hM.g2, hM.g3, hM.gn, hM.fa⟩, hS.turn hG (Turn.of hb)⟩
    ·obtain rfl : p3 = false := by
      cases p3
      ·rfl
      ·exact absurd hc (by rw [show canB _ _ _ 8 = false from by kernel_rfl] <;> simp)
     obtain rfl : p2 = true := by
      cases p2
      ·exact absurd hc (by cases s3 <;> rw [show canB _ _ _ 8 = false from by kernel_rfl] <;> simp)
      ·rfl
     obtain rfl : s3 = true := by
      cases s3
      ·exact absurd hc (by rw [show canB _ _ _ 8 = false from by kernel_rfl] <;> simp)
      ·rfl
     obtain ⟨g, rfl, hgt, hgr⟩ := hF.f3 rfl
     refine wpOp_step (o := _) rfl (fun K hK => ?_)
     rw [if_pos (by rfl)]
     replace hK := zh hK
     unfold mdT
     have hC := pick_any tb (q + 6 + ((!p1).toNat + 1)) g stpsL.length stpsL wv ((hT).le (by simp only [Bool.not_true, Bool.not_false, Bool.toNat_true, Bool.toNat_false]; omega)) rfl (by decide) (by decide) (Array.getElem?_eq_some_iff.1 hgr).1 hgt (fun j s hj => heap_cellR hgr (by rw [List.getElem?_map, hj]; rfl))
     go_simp
     with_reducible refine hC.mono ?_
     rintro e wn ⟨s, hs, rfl, ht, hu⟩
     have hM := hF.move hu
     go_wp2_with fail
     refine hK.out _ _ ⟨hS.turn hG hu, ?_⟩
     exact ⟨s1, p1, s2, true, true, true, false, al, v4, v9, v10, v12, v13, (.slice (some ⟨g, 0, none⟩) stpsL.length stpsL.length), .string s, v18, by simp only [Bool.not_true, Bool.not_false, Bool.toNat_true, Bool.toNat_false] at hn ⊢; omega, rfl, rfl, (ht).le (by simp only [Bool.not_true, Bool.not_false, Bool.toNat_true, Bool.toNat_false]; omega), ⟨hM.tu, hM.i1, hM.i2, fun _ => ⟨rfl, rfl⟩, fun _ => rfl, hM.f1, hM.f2, hM.f3, hM.g1, hM.g2, fun _ => ⟨s, hs, rfl⟩, hM.gn, hM.fa⟩, hS.turn hG hu⟩
    ·exact absurd hc (by rw [show canB _ _ _ 9 = false from by kernel_rfl] <;> simp)
    ·obtain rfl : p3 = true := by
      cases p3
      ·exact absurd hc (by rw [show canB _ _ _ 10 = false from by kernel_rfl] <;> simp)
      ·rfl
     refine wpOp_step (o := _) rfl (fun K hK => ?_)
     rw [if_pos (by rfl)]
     replace hK := zh hK
     unfold mdT
     have hC : Calls Tryz.prog _ #[_, .int .i64 50] _ _ := next_any tb 50 (q + 6 + ((!p1).toNat + (!p2).toNat)) wv ((hT).le (by simp only [Bool.not_true, Bool.not_false, Bool.toNat_true, Bool.toNat_false]; omega)) (by decide) (by decide)
     go_simp
     with_reducible refine hC.mono ?_
     rintro e wn ⟨r, rfl, hr, ht, hu⟩
     have hM := hF.move hu
     go_wp2_with fail
     refine hK.out _ _ ⟨hS.turn hG hu, ?_⟩
     exact ⟨s1, p1, s2, p2, s3, true, true, al, v4, v9, v10, v12, v13, v15, v16, .int .i64 r, by simp only [Bool.not_true, Bool.not_false, Bool.toNat_true, Bool.toNat_false] at hn ⊢; omega, rfl, rfl, (ht).le (by simp only [Bool.not_true, Bool.not_false, Bool.toNat_true, Bool.toNat_false]; omega), ⟨hM.tu, hM.i1, hM.i2, hM.i3, fun _ => rfl, hM.f1, hM.f2, hM.f3, hM.g1, hM.g2, hM.g3, fun _ => ⟨r, hr, rfl⟩, hM.fa⟩, hS.turn hG hu⟩
    ·exact absurd hc (by rw [show canB _ _ _ 11 = false from by kernel_rfl] <;> simp)
    ·exact absurd hc (by rw [show canB _ _ _ 12 = false from by kernel_rfl] <;> simp)
    ·exact absurd hc (by rw [show canB _ _ _ 13 = false from by kernel_rfl] <;> simp)
    ·exact absurd hc (by rw [show canB _ _ _ 14 = false from by kernel_rfl] <;> simp)
    ·exact absurd hc (by cases p1 <;> cases p2 <;> cases p3 <;> rw [show canB _ _ _ 15 = false from by kernel_rfl] <;> simp)
    ·obtain rfl : al = false := by
      cases al
      ·rfl
      ·exact absurd hc (by rw [show canB _ _ _ 16 = false from by kernel_rfl] <;> simp)
     refine wpOp_step (o := _) rfl (fun K hK => ?_)
     rw [if_pos (by rfl)]
     have hb : Below wv.heap.size wv (wv.alloc (.cells zRc 31)) := (Below.refl _ _).alloc (Nat.le_refl _) _
     have hM := hF.move (Turn.of hb)
     unfold mdT
     go_simp
     refine hK _ _ ⟨hS.turn hG (Turn.of hb), ?_⟩
     exact ⟨s1, p1, s2, p2, s3, p3, false, true, .pointer (some ⟨wv.heap.size, 0, none⟩), v9, v10, v12, v13, v15, v16, v18, by simp only [Bool.not_true, Bool.not_false, Bool.toNat_true, Bool.toNat_false] at hn ⊢; omega, rfl, rfl, hT.of hb, ⟨hM.tu, hM.i1, hM.i2, hM.i3, hM.iN, hM.f1, hM.f2, hM.f3, hM.g1, hM.g2, hM.g3, hM.gn, fun _ => ⟨wv.heap.size, rfl, by have := hT.lt; omega, hF.tu.size, heap_alloc_new wv _⟩⟩, hS.turn hG (Turn.of hb)⟩
    ·exact absurd hc (by cases al <;> rw [show canB _ _ _ 17 = false from by kernel_rfl] <;> simp)
  ·refine .inl ?_
   obtain rfl := hF.iN rfl
   obtain ⟨rfl, rfl⟩ := hF.i3 rfl
   obtain ⟨rfl, rfl⟩ := hF.i2 rfl
   obtain rfl := hF.i1 rfl
   obtain ⟨x1, hx1, rfl⟩ := hF.g1 rfl
   obtain ⟨x2, hx2, rfl⟩ := hF.g2 rfl
   obtain ⟨x3, hx3, rfl⟩ := hF.g3 rfl
   obtain ⟨r, hr, rfl⟩ := hF.gn rfl
   have hbd := buildRc x1 x2 x3 (r : Int) sp n cap sp' n' cap'
   have hT2 := hT.le (show q + 6 ≤ _ by omega)
   have hTu := hF.tu
   cases al
   ·obtain rfl : nf = 3 := by simpa using hn
    unfold mdL mdT
    refine zk 15 rfl (v := _) (yieldsIf_buildI (by rfl) 31 [(0, .tmp 10), (1, .tmp 13), (2, .tmp 16), (3, .tmp 18), (6, .tmp 20), (7, .tmp 22)] rfl [(0, .string x1), (1, .string x2), (2, .string x3), (3, .int .i64 (r : Int)), (6, .slice sp n cap), (7, .slice sp' n' cap')] rfl _ (fun w' _ => hbd w')) ?rest15n9
    try simp only [Act.put, zuA, zuB, zuC, zuD, zuY, zuF]
    refine zr 16 rfl (fun K hK => ?_)
    rw [if_pos (by rfl)]
    have hb : Below wv.heap.size wv (wv.alloc (.cells zRc 31)) := (Below.refl _ _).alloc (Nat.le_refl _) _
    have hg3 : (wv.alloc (.cells zRc 31)).heap[wv.heap.size]? = some (.cells zRc 31 (0, 0)) := heap_alloc_new wv _
    have hg1 : wv.heap.size ≠ tb := by have := hT.lt; omega
    have hg2 := hTu.size
    have hS2 := hS.turn hG (Turn.of hb)
    have hT3 := hT2.of hb
    have hTu2 := hTu.trans (Turn.of hb)
    go_simp
    show K _ (World.alloc wv (.cells zRc 31))
    generalize World.alloc wv (.cells zRc 31) = wy at *
    generalize wv.heap.size = g at *
    refine hK.out _ _ hS2 (fun hHeld => ?_)
    clear hK K hS hT2 hTu hb
    refine zr 17 rfl (fun K hK => ?_)
    rw [if_pos (by rfl)]
    refine wp_store_row 31 _ _ rfl g (mdR x1 x2 x3 (r : Int) sp n cap sp' n' cap') rfl rfl 31 _ hg3 (infoMdR _ _ _ _ _ _ _ _ _ _) (by rfl) (oneMdR _ _ _ _ _ _ _ _ _ _) ?_
    have hrow := setRow_heap wy g _ (mdR x1 x2 x3 (r : Int) sp n cap sp' n' cap') _ _ hg3
    have hbw : Below g wy (wy.setRow g (mdR x1 x2 x3 (r : Int) sp n cap sp' n' cap')) := below_setRow (Below.refl _ _) (Nat.le_refl _) _
    have htu3 : Turn tb w2 (wy.setRow g (mdR x1 x2 x3 (r : Int) sp n cap sp' n' cap')) := Turn.setRow hTu2 hg2 _
    have hlt : tb < g := by have h1 := HT2.out.lt; omega
    have hT4 := hT3.ofB hbw hlt
    have hS4 : LkS gl (.slice sp n cap) (.slice sp' n' cap') (wy.setRow g (mdR x1 x2 x3 (r : Int) sp n cap sp' n' cap')) := (setRow_other _ _ _ _ (by have h1 := (Array.getElem?_eq_some_iff.1 HLK.out).1; omega)).trans hS2
    generalize World.setRow wy g _ = wz at *
    refine hK.out _ _ hS4 fun _ => ?_; clear hK K
    refine zd ?_ _
    go_wp2_with fail
    go_meet
    exact ⟨g, x1, x2, x3, r, rfl, hx1, hx2, hx3, hr, hg1, hg2, hrow, hT4, htu3⟩
   ·obtain rfl : nf = 2 := by simpa using hn
    obtain ⟨g, rfl, hg1, hg2, hg3⟩ := hF.fa rfl
    unfold mdL mdT
    have hS2 := hS; have hT3 := hT2; have hTu2 := hTu
    refine zk 15 rfl (v := _) (yieldsIf_buildI (by rfl) 31 [(0, .tmp 10), (1, .tmp 13), (2, .tmp 16), (3, .tmp 18), (6, .tmp 20), (7, .tmp 22)] rfl [(0, .string x1), (1, .string x2), (2, .string x3), (3, .int .i64 (r : Int)), (6, .slice sp n cap), (7, .slice sp' n' cap')] rfl _ (fun w' _ => hbd w')) ?rest15n10
    try simp only [Act.put, zuA, zuB, zuC, zuD, zuY, zuF]
    obtain ⟨wy, hwy⟩ : ∃ wy, wy = wv := ⟨_, rfl⟩
    subst hwy
    refine zr 17 rfl (fun K hK => ?_)
    rw [if_pos (by rfl)]
    refine wp_store_row 31 _ _ rfl g (mdR x1 x2 x3 (r : Int) sp n cap sp' n' cap') rfl rfl 31 _ hg3 (infoMdR _ _ _ _ _ _ _ _ _ _) (by rfl) (oneMdR _ _ _ _ _ _ _ _ _ _) ?_
    have hrow := setRow_heap wy g _ (mdR x1 x2 x3 (r : Int) sp n cap sp' n' cap') _ _ hg3
    have hbw : Below g wy (wy.setRow g (mdR x1 x2 x3 (r : Int) sp n cap sp' n' cap')) := below_setRow (Below.refl _ _) (Nat.le_refl _) _
    have htu3 : Turn tb w2 (wy.setRow g (mdR x1 x2 x3 (r : Int) sp n cap sp' n' cap')) := Turn.setRow hTu2 hg2 _
    have hlt : tb < g := by have h1 := HT2.out.lt; omega
    have hT4 := hT3.ofB hbw hlt
    have hS4 : LkS gl (.slice sp n cap) (.slice sp' n' cap') (wy.setRow g (mdR x1 x2 x3 (r : Int) sp n cap sp' n' cap')) := (setRow_other _ _ _ _ (by have h1 := (Array.getElem?_eq_some_iff.1 HLK.out).1; omega)).trans hS2
    generalize World.setRow wy g _ = wz at *
    refine hK.out _ _ hS4 fun _ => ?_; clear hK K
    refine zd ?_ _
    go_wp2_with fail
    go_meet
    exact ⟨g, x1, x2, x3, r, rfl, hx1, hx2, hx3, hr, hg1, hg2, hrow, hT4, htu3⟩
 case rest =>
  obtain ⟨g, x1, x2, x3, r, rfl, hx1, hx2, hx3, hr, hg1, hg2, hrow, hT, hU⟩ := hcut
  have HX := zh (And.intro hx1 (And.intro hx2 (And.intro hx3 hr)))
  have HGT := zh (And.intro hg1 hg2)
  have HLT : Hid (tb < w2.heap.size) := HT2.out.lt
  have HS := zh hrow; have HTA := zh hT; have HUA := zh hU
  clear hx1 hx2 hx3 hr hg1 hg2 hrow hT hU HT2 HLK HG
  go_wp2_with fail
  refine (next_any tb 4 (q + 5) wc (HTA.out.le (by omega)) (by decide) (by decide)).mono ?_
  rintro e w3 ⟨n0, rfl, hn0, ht, hu⟩
  have HC0 : Hid (CmT tb g w2.heap.size (q + 5) w2 (.slice none 0 0) [] (mdC x1 x2 x3 (r : Int) (.slice none 0 0) (.slice none 0 0) sp n cap sp' n' cap').toArray w3) :=
   ⟨World.ownsRow_nil _ _ _ _, (hu.block g (Array.getElem?_eq_some_iff.1 HS.out).1 HGT.out.1).trans HS.out, ht, HUA.out.trans hu, ⟨HLT.out, HGT.out.2, rfl⟩⟩
  have HN0 := zh hn0
  clear HS HTA HUA ht hu hn0
  go_wp2_with fail
  go_loopw [5] (fun i wr => ∃ (c : Nat) (sq : Option Addr) (cq : Nat) (l1 : List ByteArray), i = .int .i64 c ∧ Hid (l1.length + c ≤ 4 ∧ ∀ y ∈ l1, y.size ≤ 10) ∧ Hid (CmT tb g w2.heap.size (q + 2 + c) w2 (.slice sq l1.length cq) l1 (mdC x1 x2 x3 (r : Int) (.slice sq l1.length cq) (.slice none 0 0) sp n cap sp' n' cap').toArray wr)) (fun i _ => (intOf i).toNat)
  case atStart => exact ⟨n0, none, 0, [], rfl, ⟨by have := HN0.out; simp; omega, by simp⟩, HC0.out.less (by have := HN0.out; omega)⟩
  case round =>
  clear HC0 HN0
  obtain ⟨c, sq, cq, l1, rfl, HL, HCR⟩ := hrel
  by_cases hn : 0 < c
  ·have hd : decide ((c : Int) > 0) = true := by simp; omega
   have q1 : IntKind.i64.wrap ((c : Int) - 1) = (c : Int) - 1 := IntWalk.i64_in _ (by have := HL.out.1; omega)
   go_upto_region 6 with fail
   refine wp_region_held_drew (S := fun _ => True) (by kernel_rfl) trivial (fun _ => ?_)
   have HC3 : Hid (CmT tb g w2.heap.size (q + 2 + c) w2 (.slice sq l1.length cq) l1 (mdC x1 x2 x3 (r : Int) (.slice sq l1.length cq) (.slice none 0 0) sp n cap sp' n' cap').toArray wr.drew) := HCR.out.draw (Turn.of (Below.refl wr.heap.size wr).drew) (HCR.out.tp.of (Below.refl wr.heap.size wr).drew)
   clear HCR
   generalize World.drew wr = wd at *
   refine zv 0 rfl ?_
   refine zv 2 rfl ?_
   refine zs 1 3 rfl (fun K hK => ?_) rfl (fun K hK => ?_)
   ·rw [if_pos (by rfl)]
    have k1 : World.cell? wd ⟨g, 4, none⟩ = some (.slice sq l1.length cq) := heap_cellR HC3.out.row rfl
    go_simp
    refine hK.out _ _ trivial (fun _ => ?_)
    clear hK K k1
    try simp only [Act.put, zuA, zuB, zuC, zuD, zuY, zuF]
    refine zr 3 rfl (fun K hK => ?_)
    rw [if_pos (by rfl)]
    refine wp_slice_eqR 27 4 [(0, .const (.string ⟨#[109, 97, 107, 101]⟩)), (1, .const (.string ⟨#[45, 106]⟩)), (2, .const (.string ⟨#[]⟩)), (3, .const (.string ⟨#[97, 32, 98]⟩))] rfl [(0, .string ⟨#[109, 97, 107, 101]⟩), (1, .string ⟨#[45, 106]⟩), (2, .string ⟨#[]⟩), (3, .string ⟨#[97, 32, 98]⟩)] rfl _ _ (sliceCmd _) ?_
    have HC4 : Hid (CmT tb g w2.heap.size (q + 2 + c) w2 (.slice sq l1.length cq) l1 (mdC x1 x2 x3 (r : Int) (.slice sq l1.length cq) (.slice none 0 0) sp n cap sp' n' cap').toArray (wd.alloc (.cells (cmdsL.map Value.string).toArray 9))) := HC3.out.new _
    have h0 : wd.heap.size ≠ tb := by have := HC3.out.tp.lt; omega
    have HN4 := zh (And.intro h0 (show (wd.alloc (.cells (cmdsL.map Value.string).toArray 9)).heap[wd.heap.size]? = some (.cells (cmdsL.map Value.string).toArray 9 (0, 0)) from heap_alloc_new wd _))
    clear h0 HC3
    generalize (wd.alloc (.cells (cmdsL.map Value.string).toArray 9)) = w4 at *
    generalize wd.heap.size = g3 at *
    refine hK.out _ _ trivial (fun _ => ?_); clear hK K
    try simp only [Act.put, zuA, zuB, zuC, zuD, zuY, zuF]
    refine zr 4 rfl (fun K hK => ?_)
    have hC := pick_any tb (q + 1 + c) g3 4 cmdsL w4 (HC4.out.tp.le (by omega)) rfl (by decide) (by decide) (Array.getElem?_eq_some_iff.1 HN4.out.2).1 HN4.out.1 (fun j s hj => heap_cellR HN4.out.2 (by rw [List.getElem?_map, hj]; rfl))
    go_simp
    with_reducible refine hC.mono ?_
    rintro e w5 ⟨s, hs, rfl, ht, hu⟩
    have HC5 := zh (HC4.out.draw hu ht)
    have HPS := zh (cmdsL_len s hs)
    clear hs ht hu HN4 HC4 hC
    go_wp2_with fail
    refine hK.out _ _ trivial (fun _ => ?_); clear hK K
    try simp only [Act.put, zuA, zuB, zuC, zuD, zuY, zuF]
    refine zr 5 rfl (fun K hK => ?_)
    rw [if_pos (by rfl)]
    refine wp_slice_eqR 27 1 [(0, .tmp 34)] rfl [(0, .string s)] rfl _ _ (sliceS1 s _) ?_
    have HC6 : Hid (CmT tb g w2.heap.size (q + 1 + c) w2 (.slice sq l1.length cq) l1 (mdC x1 x2 x3 (r : Int) (.slice sq l1.length cq) (.slice none 0 0) sp n cap sp' n' cap').toArray (w5.alloc (.cells #[.string s] 9))) := HC5.out.new _
    have HN6 := zh (show (w5.alloc (.cells #[.string s] 9)).cell? ⟨w5.heap.size, 0, none⟩ = some (.string s) from heap_cellR (L := [.string s]) (heap_alloc_new w5 _) rfl)
    clear HC5
    generalize (w5.alloc (.cells #[.string s] 9)) = w6 at *
    generalize w5.heap.size = g5 at *
    refine hK.out _ _ trivial (fun _ => ?_); clear hK K
    try simp only [Act.put, zuA, zuB, zuC, zuD, zuY, zuF]
    refine zr 6 rfl (fun K hK => ?_)
    rw [if_pos (by rfl)]
    refine wp_append_strQ (.tmp 31) (.tmp 35) rfl w2.heap.size _ l1 l1.length rfl rfl HC6.out.own g5 s rfl HN6.out (by have := HL.out.1; omega) HC6.out.size ?_
    intro sp7 cap7 w7 HO7 HG7
    have HR7 := zh (HC6.out.grown HG7.out)
    have HC8 : Hid (CmT tb g w2.heap.size (q + 1 + c) w2 (.slice sp7 (l1 ++ [s]).length cap7) (l1 ++ [s]) (mdC x1 x2 x3 (r : Int) (.slice sp7 (l1 ++ [s]).length cap7) (.slice none 0 0) sp n cap sp' n' cap').toArray (w7.setCell ⟨g, 4, none⟩ (.slice sp7 (l1.length + 1) cap7))) := by
     have hl : (l1 ++ [s]).length = l1.length + 1 := by simp
     have h := HC6.out.push (l' := l1 ++ [s]) (v' := .slice sp7 (l1.length + 1) cap7) (by rw [hl]; exact HO7.out) HG7.out (mdC_set _ _ _ _ _ _ _ _ _ _ _ _ _)
     show CmT _ _ _ _ _ _ _ _ _
     rw [hl]; exact h
    refine hK.out _ _ trivial (fun _ => ?_)
    clear hK K HO7 HG7 HN6 HC6
    try simp only [Act.put, zuA, zuB, zuC, zuD, zuY, zuF]
    refine zv 7 rfl ?_
    refine zr 8 rfl (fun K hK => ?_)
    rw [if_pos (by rfl)]
    have cS : w7.cell? ⟨g, 4, none⟩ = some (.slice sq l1.length cq) := heap_cellR HR7.out rfl
    have fS : w7.frozen? ⟨g, 4, none⟩ = false := frozen_of_row _ _ _ _ _ HR7.out
    go_simp
    clear cS fS HR7
    generalize World.setCell w7 _ _ = w8 at *
    refine hK.out _ _ trivial (fun _ => ?_); clear hK K
    try simp only [Act.put, zuA, zuB, zuC, zuD, zuY, zuF]
    refine zd ?_ _
    go_wp2_with fail
    go_roundw
    case rel =>
     refine ⟨c - 1, sp7, cap7, l1 ++ [s], by go_num, ?_, HC8.out.less (by omega)⟩
     refine ⟨?_, fun y hy => ?_⟩
     ·have := HL.out.1; simp; omega
     ·rcases List.mem_append.1 hy with h | h
      ·exact HL.out.2 y h
      ·rw [List.mem_singleton.1 h]; exact HPS.out
    case measure => simp [intOf]; omega
   ·rw [if_pos (by rfl)]
    refine wp_slice_eqR 27 4 [(0, .const (.string ⟨#[109, 97, 107, 101]⟩)), (1, .const (.string ⟨#[45, 106]⟩)), (2, .const (.string ⟨#[]⟩)), (3, .const (.string ⟨#[97, 32, 98]⟩))] rfl [(0, .string ⟨#[109, 97, 107, 101]⟩), (1, .string ⟨#[45, 106]⟩), (2, .string ⟨#[]⟩), (3, .string ⟨#[97, 32, 98]⟩)] rfl _ _ (sliceCmd _) ?_
    have HC4 : Hid (CmT tb g w2.heap.size (q + 2 + c) w2 (.slice sq l1.length cq) l1 (mdC x1 x2 x3 (r : Int) (.slice sq l1.length cq) (.slice none 0 0) sp n cap sp' n' cap').toArray (wd.alloc (.cells (cmdsL.map Value.string).toArray 9))) := HC3.out.new _
    have h0 : wd.heap.size ≠ tb := by have := HC3.out.tp.lt; omega
    have HN4 := zh (And.intro h0 (show (wd.alloc (.cells (cmdsL.map Value.string).toArray 9)).heap[wd.heap.size]? = some (.cells (cmdsL.map Value.string).toArray 9 (0, 0)) from heap_alloc_new wd _))
    clear h0 HC3
    generalize (wd.alloc (.cells (cmdsL.map Value.string).toArray 9)) = w4 at *
    generalize wd.heap.size = g3 at *
    refine hK.out _ _ trivial (fun _ => ?_); clear hK K
    try simp only [Act.put, zuA, zuB, zuC, zuD, zuY, zuF]
    refine zs 1 4 rfl (fun K hK => ?_) rfl (fun K hK => ?_)
    ·rw [if_pos (by rfl)]
     have k1 : World.cell? w4 ⟨g, 4, none⟩ = some (.slice sq l1.length cq) := heap_cellR HC4.out.row rfl
     go_simp
     refine hK.out _ _ trivial (fun _ => ?_)
     clear hK K k1
     try simp only [Act.put, zuA, zuB, zuC, zuD, zuY, zuF]
     refine zr 4 rfl (fun K hK => ?_)
     have hC := pick_any tb (q + 1 + c) g3 4 cmdsL w4 (HC4.out.tp.le (by omega)) rfl (by decide) (by decide) (Array.getElem?_eq_some_iff.1 HN4.out.2).1 HN4.out.1 (fun j s hj => heap_cellR HN4.out.2 (by rw [List.getElem?_map, hj]; rfl))
     go_simp
     with_reducible refine hC.mono ?_
     rintro e w5 ⟨s, hs, rfl, ht, hu⟩
     have HC5 := zh (HC4.out.draw hu ht)
     have HPS := zh (cmdsL_len s hs)
     clear hs ht hu HN4 HC4 hC
     go_wp2_with fail
     refine hK.out _ _ trivial (fun _ => ?_); clear hK K
     try simp only [Act.put, zuA, zuB, zuC, zuD, zuY, zuF]
     refine zr 5 rfl (fun K hK => ?_)
     rw [if_pos (by rfl)]
     refine wp_slice_eqR 27 1 [(0, .tmp 34)] rfl [(0, .string s)] rfl _ _ (sliceS1 s _) ?_
     have HC6 : Hid (CmT tb g w2.heap.size (q + 1 + c) w2 (.slice sq l1.length cq) l1 (mdC x1 x2 x3 (r : Int) (.slice sq l1.length cq) (.slice none 0 0) sp n cap sp' n' cap').toArray (w5.alloc (.cells #[.string s] 9))) := HC5.out.new _
     have HN6 := zh (show (w5.alloc (.cells #[.string s] 9)).cell? ⟨w5.heap.size, 0, none⟩ = some (.string s) from heap_cellR (L := [.string s]) (heap_alloc_new w5 _) rfl)
     clear HC5
     generalize (w5.alloc (.cells #[.string s] 9)) = w6 at *
     generalize w5.heap.size = g5 at *
     refine hK.out _ _ trivial (fun _ => ?_); clear hK K
     try simp only [Act.put, zuA, zuB, zuC, zuD, zuY, zuF]
     refine zr 6 rfl (fun K hK => ?_)
     rw [if_pos (by rfl)]
     refine wp_append_strQ (.tmp 31) (.tmp 35) rfl w2.heap.size _ l1 l1.length rfl rfl HC6.out.own g5 s rfl HN6.out (by have := HL.out.1; omega) HC6.out.size ?_
     intro sp7 cap7 w7 HO7 HG7
     have HR7 := zh (HC6.out.grown HG7.out)
     have HC8 : Hid (CmT tb g w2.heap.size (q + 1 + c) w2 (.slice sp7 (l1 ++ [s]).length cap7) (l1 ++ [s]) (mdC x1 x2 x3 (r : Int) (.slice sp7 (l1 ++ [s]).length cap7) (.slice none 0 0) sp n cap sp' n' cap').toArray (w7.setCell ⟨g, 4, none⟩ (.slice sp7 (l1.length + 1) cap7))) := by
      have hl : (l1 ++ [s]).length = l1.length + 1 := by simp
      have h := HC6.out.push (l' := l1 ++ [s]) (v' := .slice sp7 (l1.length + 1) cap7) (by rw [hl]; exact HO7.out) HG7.out (mdC_set _ _ _ _ _ _ _ _ _ _ _ _ _)
      show CmT _ _ _ _ _ _ _ _ _
      rw [hl]; exact h
     refine hK.out _ _ trivial (fun _ => ?_)
     clear hK K HO7 HG7 HN6 HC6
     try simp only [Act.put, zuA, zuB, zuC, zuD, zuY, zuF]
     refine zv 7 rfl ?_
     refine zr 8 rfl (fun K hK => ?_)
     rw [if_pos (by rfl)]
     have cS : w7.cell? ⟨g, 4, none⟩ = some (.slice sq l1.length cq) := heap_cellR HR7.out rfl
     have fS : w7.frozen? ⟨g, 4, none⟩ = false := frozen_of_row _ _ _ _ _ HR7.out
     go_simp
     clear cS fS HR7
     generalize World.setCell w7 _ _ = w8 at *
     refine hK.out _ _ trivial (fun _ => ?_); clear hK K
     try simp only [Act.put, zuA, zuB, zuC, zuD, zuY, zuF]
     refine zd ?_ _
     go_wp2_with fail
     go_roundw
     case rel =>
      refine ⟨c - 1, sp7, cap7, l1 ++ [s], by go_num, ?_, HC8.out.less (by omega)⟩
      refine ⟨?_, fun y hy => ?_⟩
      ·have := HL.out.1; simp; omega
      ·rcases List.mem_append.1 hy with h | h
       ·exact HL.out.2 y h
       ·rw [List.mem_singleton.1 h]; exact HPS.out
     case measure => simp [intOf]; omega
    ·have hC := pick_any tb (q + 1 + c) g3 4 cmdsL w4 (HC4.out.tp.le (by omega)) rfl (by decide) (by decide) (Array.getElem?_eq_some_iff.1 HN4.out.2).1 HN4.out.1 (fun j s hj => heap_cellR HN4.out.2 (by rw [List.getElem?_map, hj]; rfl))
     go_simp
     with_reducible refine hC.mono ?_
     rintro e w5 ⟨s, hs, rfl, ht, hu⟩
     have HC5 := zh (HC4.out.draw hu ht)
     have HPS := zh (cmdsL_len s hs)
     clear hs ht hu HN4 HC4 hC
     go_wp2_with fail
     refine hK.out _ _ trivial (fun _ => ?_); clear hK K
     try simp only [Act.put, zuA, zuB, zuC, zuD, zuY, zuF]
     refine zs 1 5 rfl (fun K hK => ?_) rfl (fun K hK => ?_)
     ·rw [if_pos (by rfl)]
      have k1 : World.cell? w5 ⟨g, 4, none⟩ = some (.slice sq l1.length cq) := heap_cellR HC5.out.row rfl
      go_simp
      refine hK.out _ _ trivial (fun _ => ?_)
      clear hK K k1
      try simp only [Act.put, zuA, zuB, zuC, zuD, zuY, zuF]
      refine zr 5 rfl (fun K hK => ?_)
      rw [if_pos (by rfl)]
      refine wp_slice_eqR 27 1 [(0, .tmp 34)] rfl [(0, .string s)] rfl _ _ (sliceS1 s _) ?_
      have HC6 : Hid (CmT tb g w2.heap.size (q + 1 + c) w2 (.slice sq l1.length cq) l1 (mdC x1 x2 x3 (r : Int) (.slice sq l1.length cq) (.slice none 0 0) sp n cap sp' n' cap').toArray (w5.alloc (.cells #[.string s] 9))) := HC5.out.new _
      have HN6 := zh (show (w5.alloc (.cells #[.string s] 9)).cell? ⟨w5.heap.size, 0, none⟩ = some (.string s) from heap_cellR (L := [.string s]) (heap_alloc_new w5 _) rfl)
      clear HC5
      generalize (w5.alloc (.cells #[.string s] 9)) = w6 at *
      generalize w5.heap.size = g5 at *
      refine hK.out _ _ trivial (fun _ => ?_); clear hK K
      try simp only [Act.put, zuA, zuB, zuC, zuD, zuY, zuF]
      refine zr 6 rfl (fun K hK => ?_)
      rw [if_pos (by rfl)]
      refine wp_append_strQ (.tmp 31) (.tmp 35) rfl w2.heap.size _ l1 l1.length rfl rfl HC6.out.own g5 s rfl HN6.out (by have := HL.out.1; omega) HC6.out.size ?_
      intro sp7 cap7 w7 HO7 HG7
      have HR7 := zh (HC6.out.grown HG7.out)
      have HC8 : Hid (CmT tb g w2.heap.size (q + 1 + c) w2 (.slice sp7 (l1 ++ [s]).length cap7) (l1 ++ [s]) (mdC x1 x2 x3 (r : Int) (.slice sp7 (l1 ++ [s]).length cap7) (.slice none 0 0) sp n cap sp' n' cap').toArray (w7.setCell ⟨g, 4, none⟩ (.slice sp7 (l1.length + 1) cap7))) := by
       have hl : (l1 ++ [s]).length = l1.length + 1 := by simp
       have h := HC6.out.push (l' := l1 ++ [s]) (v' := .slice sp7 (l1.length + 1) cap7) (by rw [hl]; exact HO7.out) HG7.out (mdC_set _ _ _ _ _ _ _ _ _ _ _ _ _)
       show CmT _ _ _ _ _ _ _ _ _
       rw [hl]; exact h
      refine hK.out _ _ trivial (fun _ => ?_)
      clear hK K HO7 HG7 HN6 HC6
      try simp only [Act.put, zuA, zuB, zuC, zuD, zuY, zuF]
      refine zv 7 rfl ?_
      refine zr 8 rfl (fun K hK => ?_)
      rw [if_pos (by rfl)]
      have cS : w7.cell? ⟨g, 4, none⟩ = some (.slice sq l1.length cq) := heap_cellR HR7.out rfl
      have fS : w7.frozen? ⟨g, 4, none⟩ = false := frozen_of_row _ _ _ _ _ HR7.out
      go_simp
      clear cS fS HR7
      generalize World.setCell w7 _ _ = w8 at *
      refine hK.out _ _ trivial (fun _ => ?_); clear hK K
      try simp only [Act.put, zuA, zuB, zuC, zuD, zuY, zuF]
      refine zd ?_ _
      go_wp2_with fail
      go_roundw
      case rel =>
       refine ⟨c - 1, sp7, cap7, l1 ++ [s], by go_num, ?_, HC8.out.less (by omega)⟩
       refine ⟨?_, fun y hy => ?_⟩
       ·have := HL.out.1; simp; omega
       ·rcases List.mem_append.1 hy with h | h
        ·exact HL.out.2 y h
        ·rw [List.mem_singleton.1 h]; exact HPS.out
      case measure => simp [intOf]; omega
     ·rw [if_pos (by rfl)]
      refine wp_slice_eqR 27 1 [(0, .tmp 34)] rfl [(0, .string s)] rfl _ _ (sliceS1 s _) ?_
      have HC6 : Hid (CmT tb g w2.heap.size (q + 1 + c) w2 (.slice sq l1.length cq) l1 (mdC x1 x2 x3 (r : Int) (.slice sq l1.length cq) (.slice none 0 0) sp n cap sp' n' cap').toArray (w5.alloc (.cells #[.string s] 9))) := HC5.out.new _
      have HN6 := zh (show (w5.alloc (.cells #[.string s] 9)).cell? ⟨w5.heap.size, 0, none⟩ = some (.string s) from heap_cellR (L := [.string s]) (heap_alloc_new w5 _) rfl)
      clear HC5
      generalize (w5.alloc (.cells #[.string s] 9)) = w6 at *
      generalize w5.heap.size = g5 at *
      refine hK.out _ _ trivial (fun _ => ?_); clear hK K
      try simp only [Act.put, zuA, zuB, zuC, zuD, zuY, zuF]
      refine zr 1 rfl (fun K hK => ?_)
      rw [if_pos (by rfl)]
      have k1 : World.cell? w6 ⟨g, 4, none⟩ = some (.slice sq l1.length cq) := heap_cellR HC6.out.row rfl
      go_simp
      refine hK.out _ _ trivial (fun _ => ?_)
      clear hK K k1
      try simp only [Act.put, zuA, zuB, zuC, zuD, zuY, zuF]
      refine zr 6 rfl (fun K hK => ?_)
      rw [if_pos (by rfl)]
      refine wp_append_strQ (.tmp 31) (.tmp 35) rfl w2.heap.size _ l1 l1.length rfl rfl HC6.out.own g5 s rfl HN6.out (by have := HL.out.1; omega) HC6.out.size ?_
      intro sp7 cap7 w7 HO7 HG7
      have HR7 := zh (HC6.out.grown HG7.out)
      have HC8 : Hid (CmT tb g w2.heap.size (q + 1 + c) w2 (.slice sp7 (l1 ++ [s]).length cap7) (l1 ++ [s]) (mdC x1 x2 x3 (r : Int) (.slice sp7 (l1 ++ [s]).length cap7) (.slice none 0 0) sp n cap sp' n' cap').toArray (w7.setCell ⟨g, 4, none⟩ (.slice sp7 (l1.length + 1) cap7))) := by
       have hl : (l1 ++ [s]).length = l1.length + 1 := by simp
       have h := HC6.out.push (l' := l1 ++ [s]) (v' := .slice sp7 (l1.length + 1) cap7) (by rw [hl]; exact HO7.out) HG7.out (mdC_set _ _ _ _ _ _ _ _ _ _ _ _ _)
       show CmT _ _ _ _ _ _ _ _ _
       rw [hl]; exact h
      refine hK.out _ _ trivial (fun _ => ?_)
      clear hK K HO7 HG7 HN6 HC6
      try simp only [Act.put, zuA, zuB, zuC, zuD, zuY, zuF]
      refine zv 7 rfl ?_
      refine zr 8 rfl (fun K hK => ?_)
      rw [if_pos (by rfl)]
      have cS : w7.cell? ⟨g, 4, none⟩ = some (.slice sq l1.length cq) := heap_cellR HR7.out rfl
      have fS : w7.frozen? ⟨g, 4, none⟩ = false := frozen_of_row _ _ _ _ _ HR7.out
      go_simp
      clear cS fS HR7
      generalize World.setCell w7 _ _ = w8 at *
      refine hK.out _ _ trivial (fun _ => ?_); clear hK K
      try simp only [Act.put, zuA, zuB, zuC, zuD, zuY, zuF]
      refine zd ?_ _
      go_wp2_with fail
      go_roundw
      case rel =>
       refine ⟨c - 1, sp7, cap7, l1 ++ [s], by go_num, ?_, HC8.out.less (by omega)⟩
       refine ⟨?_, fun y hy => ?_⟩
       ·have := HL.out.1; simp; omega
       ·rcases List.mem_append.1 hy with h | h
        ·exact HL.out.2 y h
        ·rw [List.mem_singleton.1 h]; exact HPS.out
      case measure => simp [intOf]; omega
  ·obtain rfl : c = 0 := by omega
   go_upto_region 7 with fail
   go_wp2_with fail
   refine (next_any tb 2 (q + 1) wr (HCR.out.tp.le (by omega)) (by decide) (by decide)).mono ?_
   rintro e w4 ⟨k0, rfl, hk0, ht, hu⟩
   have HC4 := zh (HCR.out.draw hu ht)
   clear ht hu HCR
   by_cases hk : k0 = 0
   ·subst hk
    have hd2 : decide (((0 : Nat) : Int) = 0) = true := by decide
    go_upto_region 8 with fail
    go_wp2_with fail
    refine (pick_new tb q 2 gccL w4 HC4.out.tp rfl (by decide) (by decide)).mono ?_
    rintro e w5 ⟨s, hs, rfl, ht, hu⟩
    have HC5 := zh (HC4.out.draw hu ht)
    have HS5 := zh hs
    clear ht hu hs HC4
    go_upto_region 9 with (first
     | (refine wpList_build_eq rfl 61 [(0, .const (.string ccB)), (1, .tmp 43)] rfl [(0, .string ccB), (1, .string s)] rfl _ (buildV1 s _) ?_)
     | (refine wpList_build_eq rfl 61 [(0, .const (.string paB)), (1, .const (.string xxB))] rfl [(0, .string paB), (1, .string xxB)] rfl _ (buildV2 _) ?_)
     | (refine wpList_slice_eqQ rfl 28 2 [(0, .tmp 44), (1, .tmp 45)] rfl [(0, .agg #[.string ccB, .string s]), (1, .agg #[.string paB, .string xxB])] rfl _ _ (sliceV2 s _) ?_; have HC6 : Hid (CmT tb g w2.heap.size q w2 (.slice sq l1.length cq) l1 (mdC x1 x2 x3 (r : Int) (.slice sq l1.length cq) (.slice none 0 0) sp n cap sp' n' cap').toArray (w5.alloc (.cells (envQ s).toArray 61))) := HC5.out.new _; have HE6 : Hid (EnvT w2.heap.size (some ⟨w5.heap.size, 0, none⟩) 2 2 [⟨ccB, s⟩, ⟨paB, xxB⟩] (w5.alloc (.cells (envQ s).toArray 61))) := .inr ⟨w5.heap.size, s, HS5.out, rfl, rfl, rfl, rfl, HC5.out.size, heap_alloc_new _ _⟩; clear HC5 HS5; generalize (w5.alloc (.cells (envQ s).toArray 61)) = w6 at *; generalize w5.heap.size = g6 at *; have cS : w6.cell? ⟨g, 5, none⟩ = some (.slice none 0 0) := heap_cellR HC6.out.row rfl; have fS : w6.frozen? ⟨g, 5, none⟩ = false := frozen_of_row _ _ _ _ _ HC6.out.row))
    have HCF : Hid (CmT tb g w2.heap.size q w2 (.slice sq l1.length cq) l1 (mdC x1 x2 x3 (r : Int) (.slice sq l1.length cq) (.slice (some ⟨g6, 0, none⟩) 2 2) sp n cap sp' n' cap').toArray (w6.setCell ⟨g, 5, none⟩ (.slice (some ⟨g6, 0, none⟩) 2 2))) := HC6.out.put 5 _ (mdC_set5 _ _ _ _ _ _ _ _ _ _ _ _ _)
    have HVF : Hid (EnvT w2.heap.size (some ⟨g6, 0, none⟩) 2 2 [⟨ccB, s⟩, ⟨paB, xxB⟩] (w6.setCell ⟨g, 5, none⟩ (.slice (some ⟨g6, 0, none⟩) 2 2))) := HE6.out.kept fun b cur hb hc => heap_setCell_other _ _ _ _ (by
     rintro rfl
     rw [show w6.heap[b]? = _ from HC6.out.row] at hc
     injection hc with hc
     injection hc with _ hc
     exact absurd hc (by decide))
    clear cS fS HC6 HE6
    generalize World.setCell w6 _ _ = wF at *
    have HF := zh (fin12 tb q g w w2 wF x1 x2 x3 r sq cq l1 (some ⟨g6, 0, none⟩) 2 2 [⟨ccB, s⟩, ⟨paB, xxB⟩] sp n cap l sp' n' cap' l' HTL.out HU2.out HR2.out HE2.out HE2'.out HA.out HA'.out HN.out HN'.out HX.out HCF.out ⟨by have := HL.out.1; omega, HL.out.2⟩ HVF.out)
    go_wp2_with (first
     | (refine wpList_load_row rfl 31 _ rfl g rfl 31 _ (0, 0) _ HCF.out.row Tryz.underlying31 rfl (infoRcA (rcM x1 x2 x3 r sq cq l1 (some ⟨g6, 0, none⟩) 2 2 [⟨ccB, s⟩, ⟨paB, xxB⟩] sp n cap l sp' n' cap' l')) ?_)
     | (refine wpList_store_row rfl 31 _ _ rfl w.heap.size (rcM x1 x2 x3 r sq cq l1 (some ⟨g6, 0, none⟩) 2 2 [⟨ccB, s⟩, ⟨paB, xxB⟩] sp n cap l sp' n' cap' l').L.toArray rfl rfl 31 _ HF.out.1 (infoRcA _) rfl (oneRc _) ?_))
    have hrow := setRow_heap wF w.heap.size _ (rcM x1 x2 x3 r sq cq l1 (some ⟨g6, 0, none⟩) 2 2 [⟨ccB, s⟩, ⟨paB, xxB⟩] sp n cap l sp' n' cap' l').L.toArray _ _ HF.out.1
    refine bodyPost_ret (results_row1 rfl _ _ _ _ _ _ _ rfl hrow Tryz.underlying31 rfl (infoRcA _)) rfl ?_
    exact ⟨_, rfl, HF.out.2.1, ⟨HN'.out, HN.out, HX.out.1, HX.out.2.1, HX.out.2.2.1, ⟨by show (0 : Int) ≤ (r : Int); omega, by show (r : Int) < 50; have := HX.out.2.2.2; omega⟩, ⟨by show l1.length ≤ 4; have := HL.out.1; omega, HL.out.2⟩, HVF.out.what, HSN.out.1, HSN.out.2⟩, HF.out.2.2.1, HF.out.2.2.2⟩
   ·have hd2 : decide (((k0 : Nat) : Int) = 0) = false := by simp; omega
    go_upto_region 9 with fail
    have HCF := zh (HC4.out.less (k' := q) (by omega))
    have HVF : Hid (EnvT w2.heap.size none 0 0 [] w4) := .inl ⟨rfl, rfl, rfl, rfl⟩
    clear HC4
    generalize w4 = wF at *
    have HF := zh (fin12 tb q g w w2 wF x1 x2 x3 r sq cq l1 none 0 0 [] sp n cap l sp' n' cap' l' HTL.out HU2.out HR2.out HE2.out HE2'.out HA.out HA'.out HN.out HN'.out HX.out HCF.out ⟨by have := HL.out.1; omega, HL.out.2⟩ HVF.out)
    go_wp2_with (first
     | (refine wpList_load_row rfl 31 _ rfl g rfl 31 _ (0, 0) _ HCF.out.row Tryz.underlying31 rfl (infoRcA (rcM x1 x2 x3 r sq cq l1 none 0 0 [] sp n cap l sp' n' cap' l')) ?_)
     | (refine wpList_store_row rfl 31 _ _ rfl w.heap.size (rcM x1 x2 x3 r sq cq l1 none 0 0 [] sp n cap l sp' n' cap' l').L.toArray rfl rfl 31 _ HF.out.1 (infoRcA _) rfl (oneRc _) ?_))
    have hrow := setRow_heap wF w.heap.size _ (rcM x1 x2 x3 r sq cq l1 none 0 0 [] sp n cap l sp' n' cap' l').L.toArray _ _ HF.out.1
    refine bodyPost_ret (results_row1 rfl _ _ _ _ _ _ _ rfl hrow Tryz.underlying31 rfl (infoRcA _)) rfl ?_
    exact ⟨_, rfl, HF.out.2.1, ⟨HN'.out, HN.out, HX.out.1, HX.out.2.1, HX.out.2.2.1, ⟨by show (0 : Int) ≤ (r : Int); omega, by show (r : Int) < 50; have := HX.out.2.2.2; omega⟩, ⟨by show l1.length ≤ 4; have := HL.out.1; omega, HL.out.2⟩, HVF.out.what, HSN.out.1, HSN.out.2⟩, HF.out.2.2.1, HF.out.2.2.2⟩
end Go.Proofs.YtecllfbadciaoaaGreatDoor
