/-
  Layer 12's records, up to the switch behind the draws.
-/
import Derived.Test.YtecllfbadciaoaaGreatDoorZip
import Derived.Test.YtecllfbadciaoaaGreatDoorQ14
import Derived.Deep.CutBlock
set_option maxRecDepth 100000
set_option maxHeartbeats 8000000
namespace Go.Proofs.YtecllfbadciaoaaGreatDoor
open Go.RowKit
structure TapeIn (w : World) (sp : Option Addr) (n cap : Nat) (l : List Int) : Prop where
 len : l.length = n
 cells : 0 < n → ∃ b off, sp = some ⟨b, off, none⟩ ∧ b < w.heap.size ∧ n ≤ cap ∧ ∀ i v, l[i]? = some v → w.cell? ⟨b, off + i, none⟩ = some (.int .i64 v)
 wide : ∀ v ∈ l, -9223372036854775808 ≤ v ∧ v ≤ 9223372036854775807
 short : n ≤ 9223372036854775807
theorem TapeIn.below {w w' : World} {sp : Option Addr} {n cap : Nat} {l : List Int} (h : TapeIn w sp n cap l) (hb : Below w.heap.size w w') : TapeIn w' sp n cap l :=
 ⟨h.len, fun hn => by
  obtain ⟨b, off, e, hlt, hc, hr⟩ := h.cells hn
  exact ⟨b, off, e, Nat.lt_of_lt_of_le hlt hb.size, hc, fun i v hi => (hb.cell (p := ⟨b, off + i, none⟩) hlt).trans (hr i v hi)⟩, h.wide, h.short⟩
theorem TapeIn.tp {w : World} {sp : Option Addr} {n cap : Nat} {l : List Int} (h : TapeIn w sp n cap l) : Tp (w.alloc (.cells #[.slice sp n cap, .int .i64 0] 35)) w.heap.size 1000 :=
 have hb : Below w.heap.size w (w.alloc (.cells #[.slice sp n cap, .int .i64 0] 35)) := (Below.refl _ _).alloc (Nat.le_refl _) _
 ⟨sp, n, cap, l, 0, ⟨heap_alloc_new w _, h.len, fun hn => by
  obtain ⟨b, off, e, hlt, hc, hr⟩ := h.cells hn
  exact ⟨b, off, e, hlt, hc, fun i v hi => (hb.cell (p := ⟨b, off + i, none⟩) hlt).trans (hr i v hi)⟩, h.wide, h.short⟩, by omega⟩
theorem OdT.belowB {tb go k B : Nat} {wb : World} {y : Rc} {w w' : World} (h : OdT tb go k wb y w) (hb : Below B w w') (hg : go < B) (hB : wb.heap.size ≤ B) : OdT tb go k wb y w' :=
 ⟨(hb.block go hg).trans h.row, h.i, h.t0, h.tp.ofB hb (by have := h.lt; omega), h.tu.below2 (hb.mono hB), h.lt⟩
theorem run_append_noneQ {P : Program} {w : World} (base : Nat) (t ty e : TypeId) (i : TypeInfo) (size c : Nat) (ht : P.underlying t = some (.slice e)) (hi : P.info? e = some i) (v : Value) (n : Nat) (xs : List Value) (hown : w.ownsRow base e size v n xs) :
 (Builtin.append_ #[t, t] ty #[v, .slice none 0 c]).run P w = .ok v w := by
 rcases hown.2 with ⟨rfl, rfl⟩ | ⟨g, cap, cur, rfl, _, _, hnc, _⟩
 ·simp [Builtin.append_, run_underlying ht, sizeOf, typeInfo, hi, Builtin.lenOf, Builtin.firstCells]
 ·simp [Builtin.append_, run_underlying ht, sizeOf, typeInfo, hi, Builtin.lenOf, Builtin.firstCells, hnc, storeCells]
theorem wpList_appendsQ {w : World} {ops : Array Oper} {rest : List Oper} {o : Oper} {a : Act} {Q : Exit → Act → World → Prop} (hgd : o.guard = none) (s x : Operand)
 (ho : o.op = .call { callee := .builtin .append, args := #[s, x], argTypes := #[29, 29] }) (base : Nat) (v : Value) (l : List En) (n : Nat) (hn : n = l.length) (hs : a.eval s = v) (hown : OwnE w base v l)
 (sp : Option Addr) (m c : Nat) (hx : a.eval x = .slice sp m c) {B : Nat} {l2 : List En} (hsrc : EnsIn w B sp m c l2) (hlen : n ≤ 1000000) (hm : m ≤ 1000000) (hbase : base ≤ w.heap.size)
 (h : ∀ sp' cap w', Hid (OwnE w' base (.slice sp' (n + m) cap) (l ++ l2)) → Hid (Below base w w') → wpList Tryz.prog ops Q rest (a.put o.dst (.slice sp' (n + m) cap)) w') : wpList Tryz.prog ops Q (o :: rest) a w := by
 refine wpList_plain hgd fun K hK => ?_
 cases sp with
 | some ad => exact wp_appendsEnS s x ho base v l n hn hs hown (some ad) m c hx hsrc (by intro h; cases h) hlen hm hbase fun sp' cap w' h1 h2 => hK _ _ (h sp' cap w' h1 h2)
 | none =>
   subst hn
   obtain ⟨i0, hi0, hz0, hz1, hz2⟩ := info_parts infoE3
   have hm0 : m = 0 := by
    by_cases h0 : 0 < m
    ·obtain ⟨_, _, e, _⟩ := hsrc.cells h0; cases e
    ·omega
   have hn2 : l2 = [] := List.eq_nil_of_length_eq_zero (by have := hsrc.len; omega)
   subst hn2 hm0
   have hrun := run_append_noneQ (P := Tryz.prog) (w := w) base 29 o.type 82 i0 33 c Tryz.underlying29 hi0 v l.length (rowsE l) hown.1
   obtain ⟨sp', cap', rfl⟩ := own_shapeQ hown.1
   unfold Oper.wp
   simp [execOp, ho, resolve, invoke, builtin, hs, hx, hrun, Result.andThen]
   exact hK _ _ (h sp' cap' w (by show OwnE _ _ _ _; simpa using hown) (Below.refl _ _))
def vr4 : List Value := [.string ⟨#[98]⟩, .string ⟨#[]⟩, .string ⟨#[97]⟩, .string ⟨#[]⟩]
theorem sliceV4 (w : World) : (Instr.buildSlice 28 2 #[(0, .agg #[.string ⟨#[98]⟩, .string ⟨#[]⟩]), (1, .agg #[.string ⟨#[97]⟩, .string ⟨#[]⟩])]).run Tryz.prog w = .ok (.slice (some ⟨w.heap.size, 0, none⟩) 2 2) (w.alloc (.cells #[.string ⟨#[98]⟩, .string ⟨#[]⟩, .string ⟨#[97]⟩, .string ⟨#[]⟩] 61)) := by kernel_rfl
theorem vrs4 {w : World} {g : Nat} (h : w.heap[g]? = some (.cells vr4.toArray 61 (0, 0))) : VrsIn w w.heap.size (some ⟨g, 0, none⟩) 2 2 [⟨⟨#[98]⟩, ⟨#[]⟩⟩, ⟨⟨#[97]⟩, ⟨#[]⟩⟩] := by
 refine ⟨rfl, fun _ => ⟨g, 0, rfl, (Array.getElem?_eq_some_iff.1 h).1, Nat.le_refl _, fun i x hx => ?_⟩⟩
 have hc : ∀ j v, vr4[j]? = some v → w.cell? ⟨g, j, none⟩ = some v := fun j v hv => heap_cellR h hv
 match i, hx with
 | 0, hx =>
   injection hx with hx; subst hx
   intro j v hv
   match j, hv with
   | 0, hv => exact hc 0 _ hv
   | 1, hv => exact hc 1 _ hv
 | 1, hx =>
   injection hx with hx; subst hx
   intro j v hv
   match j, hv with
   | 0, hv => exact hc 2 _ hv
   | 1, hv => exact hc 3 _ hv
@[reducible] def d1 : List Int := 1 :: List.replicate 31 0
theorem d1_ok : D32 d1 := dg1_ok 0 (by decide)
@[reducible] def en6 : En := ⟨⟨#[97, 47, 46, 46, 47, 98]⟩, d1⟩
@[reducible] def en3 : En := ⟨⟨#[97]⟩, d1⟩
theorem ens1 {w : World} {g : Nat} {e : En} (h : w.heap[g]? = some (.cells (enL e).toArray 82 (0, 0))) (hk : OkE e) : EnsIn w w.heap.size (some ⟨g, 0, none⟩) 1 1 [e] :=
 ⟨rfl, fun x hx => by rw [List.mem_singleton.1 hx]; exact hk, fun _ => ⟨g, 0, rfl, (Array.getElem?_eq_some_iff.1 h).1, Nat.le_refl _, fun i x hx => by
  match i, hx with
  | 0, hx =>
    injection hx with hx; subst hx
    intro j v hv
    rw [show 0 + 0 * 33 + j = j by omega]
    exact heap_cellR h hv⟩⟩
theorem records_any (raw : Rc) (tsp : Option Addr) (tn tcap : Nat) (tl : List Int) (w : World) (hx : RcAt raw w) (ht : TapeIn w tsp tn tcap tl) :
 Calls Tryz.prog 12 #[.agg raw.L.toArray, .slice tsp tn tcap] w (RcsAns w) := by
 have hb0 : Below w.heap.size w (w.alloc (.cells raw.L.toArray 31)) := (Below.refl _ _).alloc (Nat.le_refl _) _
 have HX0 := zh hx
 have HR0 : Hid ((w.alloc (.cells raw.L.toArray 31)).heap[w.heap.size]? = some (.cells raw.L.toArray 31 (0, 0))) := heap_alloc_new _ _
 have HTI := zh (ht.below hb0)
 have HB0 := zh hb0
 clear hx ht hb0
 go_enter Tryz.func12, Tryz.ntmps12
 go_upto_region 1 with fail
 have hsz : (w.alloc (.cells raw.L.toArray 31)).heap.size = w.heap.size + 1 := by simp
 generalize hw0 : World.alloc w _ = w0 at *
 have HTP := zh HTI.out.tp
 have HBT : Hid (Below w0.heap.size w0 (w0.alloc (.cells #[.slice tsp tn tcap, .int .i64 0] 35))) := (Below.refl _ _).alloc (Nat.le_refl _) _
 go_upto_region 2 with (refine wpList_build_eq rfl 35 [(0, .tmp 9)] rfl [(0, .slice tsp tn tcap)] rfl (.agg #[.slice tsp tn tcap, .int .i64 0]) (by kernel_rfl) ?_)
 obtain ⟨tb, htb⟩ : ∃ tb, tb = w.heap.size + 1 := ⟨_, rfl⟩
 rw [hsz] at HTP
 rw [← htb] at HTP
 rw [← htb]
 have hwl : w.heap.size < tb := by omega
 generalize World.alloc w0 _ = wT at *
 have HBW : Hid (Below w.heap.size w wT) := HB0.out.trans (HBT.out.mono (by omega))
 have HRT : Hid (wT.heap[w.heap.size]? = some (.cells raw.L.toArray 31 (0, 0))) := (HBT.out.block _ (by omega)).trans HR0.out
 clear hw0 hsz HTI HB0 HBT HR0 htb
 try simp only [Act.put, zuA, zuB, zuC, zuD, zuY, zuF]
 go_wp2_with fail
 refine (made12_any tb 900 wT (HTP.out.le (by omega))).mono ?_
 rintro e w1 ⟨x1, rfl, hi, -, ht, hu⟩
 have HI1 := zh hi; have HT1 := zh ht; have HU1 := zh hu
 have HTL : Hid (tb < wT.heap.size) := HTP.out.lt
 clear hi ht hu HTP
 go_upto_region 3 with (refine wpList_store_row rfl 31 _ _ rfl w1.heap.size x1.L.toArray rfl rfl 31 _ (heap_alloc_new w1 _) (infoRcA x1) rfl (oneRc x1) ?_; rw [setRow_new])
 have HR2 : Hid ((w1.alloc (.cells x1.L.toArray 31)).heap[w1.heap.size]? = some (.cells x1.L.toArray 31 (0, 0))) := heap_alloc_new _ _
 have HB2 : Hid (Below w1.heap.size w1 (w1.alloc (.cells x1.L.toArray 31))) := (Below.refl _ _).alloc (Nat.le_refl _) _
 generalize World.alloc w1 (.cells x1.L.toArray 31) = w2 at *
 have HI2 : Hid (RcIn x1 w2) := HI1.out.below HB2.out
 have HT2 : Hid (Tp w2 tb 900) := HT1.out.of HB2.out
 have HU2 : Hid (Turn tb wT w2) := HU1.out.trans (Turn.of HB2.out)
 obtain ⟨gr, hgr⟩ : ∃ gr, gr = w1.heap.size := ⟨_, rfl⟩
 have HG : Hid (gr ≠ tb ∧ gr < w2.heap.size) := by
  refine ⟨?_, ?_⟩
  ·have h1 := HU1.out.size; have h2 := HTL.out; omega
  ·rw [hgr]; exact (Array.getElem?_eq_some_iff.1 HR2.out).1
 rw [← hgr] at HR2
 rw [← hgr]
 clear HB2 HI1 HT1 HU1 hgr
 go_wp2_with fail
 refine (made12_any tb 800 w2 (HT2.out.le (by omega))).mono ?_
 rintro e w3 ⟨y1, rfl, hi, hpn, ht, hu⟩
 have HPN := zh hpn
 clear hpn
 have HI3 := zh hi; have HT3 := zh ht; have HU3 := zh hu
 clear hi ht hu
 go_upto_region 4 with (refine wpList_store_row rfl 31 _ _ rfl w3.heap.size y1.L.toArray rfl rfl 31 _ (heap_alloc_new w3 _) (infoRcA y1) rfl (oneRc y1) ?_; rw [setRow_new])
 have HR4 : Hid ((w3.alloc (.cells y1.L.toArray 31)).heap[w3.heap.size]? = some (.cells y1.L.toArray 31 (0, 0))) := heap_alloc_new _ _
 have HB4 : Hid (Below w3.heap.size w3 (w3.alloc (.cells y1.L.toArray 31))) := (Below.refl _ _).alloc (Nat.le_refl _) _
 generalize World.alloc w3 (.cells y1.L.toArray 31) = w4 at *
 obtain ⟨go, hgo⟩ : ∃ go, go = w3.heap.size := ⟨_, rfl⟩
 rw [← hgo] at HR4
 rw [← hgo]
 have HO4 : Hid (OdT tb go 800 w3 y1 w4) := ⟨HR4.out, HI3.out, ⟨_, HT3.out⟩, HT3.out.of HB4.out, Turn.of HB4.out, ⟨by omega, HT3.out.lt⟩⟩
 have HX3 : Hid (RcIn x1 w3 ∧ w3.heap[gr]? = some (.cells x1.L.toArray 31 (0, 0))) := ⟨HI2.out.turnQ HT2.out HU3.out, (HU3.out.block _ HG.out.2 HG.out.1).trans HR2.out⟩
 have HW3 : Hid (RcAt raw w3 ∧ w3.heap[w.heap.size]? = some (.cells raw.L.toArray 31 (0, 0)) ∧ Below w.heap.size w w3) := by
  have hu := HU2.out.trans HU3.out
  have hb := HBW.out.trans (hu.below (B := w.heap.size) (by omega) HTL.out)
  exact ⟨HX0.out.below hb, (hu.block _ (by have := HTL.out; omega) (by omega)).trans HRT.out, hb⟩
 clear HR4 HB4 HI3 HU3 HI2 HR2 HT2 HU2 HBW HRT hgo
 go_wp2_with fail
 refine (next_any tb 8 700 w4 (HO4.out.tp.le (by omega)) (by decide) (by decide)).mono ?_
 rintro e w5 ⟨k, rfl, hk, ht, hu⟩
 have HO5 := zh (HO4.out.draw hu ht)
 clear ht hu HO4
 go_upto_block 0 with fail
 try simp only [Act.put, zuA, zuB, zuC, zuD, zuY, zuF]
 refine id ?_
 go_cut [] (fun wx => ∃ y, OdE tb go w3 y wx)
 case first =>
  clear HW3 HX3 HT3 HG HX0
  have hk8 : k = 0 ∨ k = 1 ∨ k = 2 ∨ k = 3 ∨ k = 4 ∨ k = 5 ∨ k = 6 ∨ k = 7 := by omega
  rcases hk8 with h8 | h8 | h8 | h8 | h8 | h8 | h8 | h8
  ·subst h8
   have e0 : decide (((0 : Nat) : Int) = 0) = true := by decide
   have cS := (HO5.out.cell (j := 0) rfl).1
   have fS := (HO5.out.cell (j := 0) rfl).2
   go_wp2_with fail
   go_meet
   exact ⟨_, HO5.out.put 0 _ (set0 _ _) fun h => h.set0 (show ByteArray.size ⟨#[82, 117, 110]⟩ ≤ 100 by decide)⟩
  ·subst h8
   have e0 : decide (((1 : Nat) : Int) = 0) = false := by decide
   have e1 : decide (((1 : Nat) : Int) = 1) = true := by decide
   go_wp2_with fail
   refine (pick_new tb 600 4 [⟨#[97, 47, 47, 98]⟩, ⟨#[97, 47, 98, 47, 99, 47, 100, 47, 101]⟩, ⟨#[47, 97]⟩, ⟨#[65]⟩] w5 (HO5.out.tp.le (by omega)) rfl (by decide) (by decide)).mono ?_
   rintro e w6 ⟨s, hs, rfl, ht, hu⟩
   have HO6 := zh (HO5.out.draw hu ht)
   have HSS : Hid (s.size ≤ 100) := (by decide : ∀ s ∈ ([⟨#[97, 47, 47, 98]⟩, ⟨#[97, 47, 98, 47, 99, 47, 100, 47, 101]⟩, ⟨#[47, 97]⟩, ⟨#[65]⟩] : List ByteArray), s.size ≤ 100) s hs
   clear hs ht hu HO5
   have cS := (HO6.out.cell (j := 1) rfl).1
   have fS := (HO6.out.cell (j := 1) rfl).2
   go_wp2_with fail
   go_meet
   exact ⟨_, HO6.out.put 1 _ (set1 _ _) fun h => h.set1 HSS.out⟩
  ·subst h8
   have e0 : decide (((2 : Nat) : Int) = 0) = false := by decide
   have e1 : decide (((2 : Nat) : Int) = 1) = false := by decide
   have e2 : decide (((2 : Nat) : Int) = 2) = true := by decide
   go_wp2_with fail
   refine (next_any tb 3 600 w5 (HO5.out.tp.le (by omega)) (by decide) (by decide)).mono ?_
   rintro e w6 ⟨r, rfl, hr, ht, hu⟩
   have HO6 := zh (HO5.out.draw hu ht)
   clear ht hu HO5
   have cS := (HO6.out.cell (j := 3) rfl).1
   have fS := (HO6.out.cell (j := 3) rfl).2
   have q1 : IntKind.i64.wrap ((r : Int) - 1) = (r : Int) - 1 := IntWalk.i64_in _ (by omega)
   have q2 : IntKind.i64.wrap (((r : Int) - 1) * 1099511627776) = ((r : Int) - 1) * 1099511627776 := IntWalk.i64_in _ (by omega)
   go_wp2_with fail
   go_meet
   exact ⟨_, HO6.out.put 3 _ (set3 _ _) fun h => h.set3 (by omega)⟩
  ·subst h8
   have e0 : decide (((3 : Nat) : Int) = 0) = false := by decide
   have e1 : decide (((3 : Nat) : Int) = 1) = false := by decide
   have e2 : decide (((3 : Nat) : Int) = 2) = false := by decide
   have e3 : decide (((3 : Nat) : Int) = 3) = true := by decide
   have HGA : Hid True := trivial
   have HGB : Hid True := trivial
   have HGC : Hid True := trivial
   have HGD : Hid True := trivial
   have HGO : Hid (go < w5.heap.size ∧ w3.heap.size ≤ w5.heap.size) := ⟨(Array.getElem?_eq_some_iff.1 HO5.out.row).1, HO5.out.tu.size⟩
   go_upto_region 19 with (first
    | (at_builtin; refine wpList_appendsQ rfl (.tmp 36) (.tmp 38) rfl g6 _ [] 0 rfl rfl HW6.out y1.p1 y1.pn y1.pc rfl HO6.out.inn.p (by decide) (by have := HPN.out; omega) HS6.out ?_; intro sp7 cap7 w7 HW7 HB7; have HO7 : Hid (OdT tb go 700 w3 y1 w7) := HO6.out.belowB HB7.out HGO.out.1 HGO.out.2; have HS7 : Hid (g6 ≤ w7.heap.size) := Nat.le_trans HS6.out HB7.out.size; rw [List.nil_append] at HW7; clear HO6 HW6 HS6 HB7 c7)
    | (at_builtin; refine wpList_append_en rfl (.tmp 39) (.tmp 42) rfl g6 _ y1.p (0 + y1.pn) (by have := HO8.out.inn.p.len; omega) rfl HW8.out g8 en3 rfl HE8.out d1_ok (by have := HPN.out; omega) HS8.out ?_; intro sp9 cap9 w9 HW9 HB9 HG9; have HO9 : Hid (OdT tb go 700 w3 y1 w9) := HO8.out.belowB HB9.out HGO.out.1 HGO.out.2; clear HO8 HW8 HS8 HE8 HB9 HG9; have cS := (HO9.out.cell (j := 7) rfl).1; have fS := (HO9.out.cell (j := 7) rfl).2)
    | (clear HGA; refine wpList_slice_eqQ rfl 29 0 [] rfl [] rfl _ _ (slice0 _) ?_; have HO6 : Hid (OdT tb go 700 w3 y1 (w5.alloc (.cells #[] 82))) := HO5.out.new _; have HW6 : Hid (OwnE (w5.alloc (.cells #[] 82)) w5.heap.size (.slice (some ⟨w5.heap.size, 0, none⟩) 0 0) []) := own_empty w5 _ (Nat.le_refl _); have HS6 : Hid (w5.heap.size ≤ (w5.alloc (.cells #[] 82)).heap.size) := (by show _ ≤ _; simp); clear HO5; generalize (w5.alloc (.cells #[] 82)) = w6 at *; generalize w5.heap.size = g6 at *; have c7 := (HO6.out.cell (j := 7) rfl).1)
    | (clear HGB; refine wpList_slice_eqQ rfl 29 1 [(0, .tmp 41)] rfl [(0, .agg (enL en3).toArray)] rfl _ _ (sliceE _ en3 d1_ok) ?_; have hb8 : Below w7.heap.size w7 (w7.alloc (.cells (enL en3).toArray 82)) := (Below.refl _ _).alloc (Nat.le_refl _) _; have HO8 : Hid (OdT tb go 700 w3 y1 (w7.alloc (.cells (enL en3).toArray 82))) := HO7.out.new _; have HW8 := zh (HW7.out.below hb8); have HS8 : Hid (g6 ≤ (w7.alloc (.cells (enL en3).toArray 82)).heap.size) := Nat.le_trans HS7.out hb8.size; have HE8 : Hid (EnB (w7.alloc (.cells (enL en3).toArray 82)) w7.heap.size en3) := heap_alloc_new _ _; clear hb8 HO7 HW7 HS7; generalize (w7.alloc (.cells (enL en3).toArray 82)) = w8 at *; generalize w7.heap.size = g8 at *)
    | (clear HGC; refine wpList_build_eq rfl 80 [(0, .const (.int .u8 1))] rfl [(0, .int .u8 1)] rfl (.agg (d1.map (Value.int .u8)).toArray) (buildD1 1 _) ?_)
    | (clear HGD; refine wpList_build_eq rfl 82 [(0, .const (.string ⟨#[97]⟩)), (1, .tmp 40)] rfl [(0, .string ⟨#[97]⟩), (1, .agg (d1.map (Value.int .u8)).toArray)] rfl _ (buildE ⟨#[97]⟩ d1 d1_ok.1 _) ?_)
    | fail)
   go_meet
   have hw9 := HW9.out
   rw [Nat.zero_add] at hw9
   refine ⟨_, HO9.out.put 7 _ (set7 _ _ _ _ (y1.p ++ [en3])) fun h => h.set7 (OwnE.ens (base := g6) ⟨own_keptQ hw9.1 fun b _ hb _ => heap_setCell_other _ _ _ _ (by have := HGO.out.1; show b ≠ go; omega), hw9.2⟩ ?_) (by have := HPN.out; omega)⟩
   have := HO9.out.inn.p.len
   simp; omega
  ·subst h8
   have e0 : decide (((4 : Nat) : Int) = 0) = false := by decide
   have e1 : decide (((4 : Nat) : Int) = 1) = false := by decide
   have e2 : decide (((4 : Nat) : Int) = 2) = false := by decide
   have e3 : decide (((4 : Nat) : Int) = 3) = false := by decide
   have e4 : decide (((4 : Nat) : Int) = 4) = true := by decide
   go_upto_region 19 with (first
    | (refine wpList_build_eq rfl 61 [(0, .const (.string ⟨#[98]⟩))] rfl [(0, .string ⟨#[98]⟩)] rfl (.agg #[.string ⟨#[98]⟩, .string ⟨#[]⟩]) (by kernel_rfl) ?_)
    | (refine wpList_build_eq rfl 61 [(0, .const (.string ⟨#[97]⟩))] rfl [(0, .string ⟨#[97]⟩)] rfl (.agg #[.string ⟨#[97]⟩, .string ⟨#[]⟩]) (by kernel_rfl) ?_)
    | (refine wpList_slice_eqQ rfl 28 2 [(0, .tmp 47), (1, .tmp 48)] rfl [(0, .agg #[.string ⟨#[98]⟩, .string ⟨#[]⟩]), (1, .agg #[.string ⟨#[97]⟩, .string ⟨#[]⟩])] rfl _ _ (sliceV4 _) ?_; have HO6 : Hid (OdT tb go 700 w3 y1 (w5.alloc (.cells #[.string ⟨#[98]⟩, .string ⟨#[]⟩, .string ⟨#[97]⟩, .string ⟨#[]⟩] 61))) := HO5.out.new _; have HV6 : Hid ((w5.alloc (.cells #[.string ⟨#[98]⟩, .string ⟨#[]⟩, .string ⟨#[97]⟩, .string ⟨#[]⟩] 61)).heap[w5.heap.size]? = some (.cells vr4.toArray 61 (0, 0)) ∧ w5.heap.size ≠ go) := ⟨heap_alloc_new _ _, by have := (Array.getElem?_eq_some_iff.1 HO5.out.row).1; omega⟩; clear HO5; generalize (w5.alloc (.cells #[.string ⟨#[98]⟩, .string ⟨#[]⟩, .string ⟨#[97]⟩, .string ⟨#[]⟩] 61)) = w6 at *; generalize w5.heap.size = g6 at *; have cS := (HO6.out.cell (j := 5) rfl).1; have fS := (HO6.out.cell (j := 5) rfl).2))
   go_meet
   refine ⟨_, HO6.out.put 5 _ (set5 _ _ _ _ [⟨⟨#[98]⟩, ⟨#[]⟩⟩, ⟨⟨#[97]⟩, ⟨#[]⟩⟩]) fun h => h.set5 (vrs4 ((heap_setCell_other _ _ _ _ HV6.out.2).trans HV6.out.1)) (by decide) ?_⟩
   intro z hz
   simp at hz
   rcases hz with rfl | rfl
   ·exact ⟨by decide, by decide⟩
   ·exact ⟨by decide, by decide⟩
  ·subst h8
   have e0 : decide (((5 : Nat) : Int) = 0) = false := by decide
   have e1 : decide (((5 : Nat) : Int) = 1) = false := by decide
   have e2 : decide (((5 : Nat) : Int) = 2) = false := by decide
   have e3 : decide (((5 : Nat) : Int) = 3) = false := by decide
   have e4 : decide (((5 : Nat) : Int) = 4) = false := by decide
   have e5 : decide (((5 : Nat) : Int) = 5) = true := by decide
   have cS := (HO5.out.cell (j := 2) rfl).1
   have fS := (HO5.out.cell (j := 2) rfl).2
   go_wp2_with fail
   go_meet
   exact ⟨_, HO5.out.put 2 _ (set2 _ _) fun h => h.set2 (show ByteArray.size ⟨#[]⟩ ≤ 100 by decide)⟩
  ·subst h8
   have e0 : decide (((6 : Nat) : Int) = 0) = false := by decide
   have e1 : decide (((6 : Nat) : Int) = 1) = false := by decide
   have e2 : decide (((6 : Nat) : Int) = 2) = false := by decide
   have e3 : decide (((6 : Nat) : Int) = 3) = false := by decide
   have e4 : decide (((6 : Nat) : Int) = 4) = false := by decide
   have e5 : decide (((6 : Nat) : Int) = 5) = false := by decide
   have e6 : decide (((6 : Nat) : Int) = 6) = true := by decide
   go_upto_region 19 with (first
    | (refine wpList_build_eq rfl 80 [(0, .const (.int .u8 1))] rfl [(0, .int .u8 1)] rfl (.agg (d1.map (Value.int .u8)).toArray) (buildD1 1 _) ?_)
    | (refine wpList_build_eq rfl 82 [(0, .const (.string ⟨#[97, 47, 46, 46, 47, 98]⟩)), (1, .tmp 56)] rfl [(0, .string ⟨#[97, 47, 46, 46, 47, 98]⟩), (1, .agg (d1.map (Value.int .u8)).toArray)] rfl _ (buildE ⟨#[97, 47, 46, 46, 47, 98]⟩ d1 d1_ok.1 _) ?_)
    | (refine wpList_slice_eqQ rfl 29 1 [(0, .tmp 57)] rfl [(0, .agg (enL en6).toArray)] rfl _ _ (sliceE _ en6 d1_ok) ?_; have HO6 : Hid (OdT tb go 700 w3 y1 (w5.alloc (.cells (enL en6).toArray 82))) := HO5.out.new _; have HV6 : Hid ((w5.alloc (.cells (enL en6).toArray 82)).heap[w5.heap.size]? = some (.cells (enL en6).toArray 82 (0, 0)) ∧ w5.heap.size ≠ go) := ⟨heap_alloc_new _ _, by have := (Array.getElem?_eq_some_iff.1 HO5.out.row).1; omega⟩; clear HO5; generalize (w5.alloc (.cells (enL en6).toArray 82)) = w6 at *; generalize w5.heap.size = g6 at *; have cS := (HO6.out.cell (j := 6) rfl).1; have fS := (HO6.out.cell (j := 6) rfl).2))
   go_meet
   exact ⟨_, HO6.out.put 6 _ (set6 _ _ _ _ [en6]) fun h => h.set6 (ens1 ((heap_setCell_other _ _ _ _ HV6.out.2).trans HV6.out.1) d1_ok) (by decide)⟩
  ·subst h8
   have e0 : decide (((7 : Nat) : Int) = 0) = false := by decide
   have e1 : decide (((7 : Nat) : Int) = 1) = false := by decide
   have e2 : decide (((7 : Nat) : Int) = 2) = false := by decide
   have e3 : decide (((7 : Nat) : Int) = 3) = false := by decide
   have e4 : decide (((7 : Nat) : Int) = 4) = false := by decide
   have e5 : decide (((7 : Nat) : Int) = 5) = false := by decide
   have e6 : decide (((7 : Nat) : Int) = 6) = false := by decide
   go_wp2_with fail
   go_meet
   exact ⟨_, HO5.out.row, HO5.out.inn, HO5.out.tu⟩
 case rest =>
  obtain ⟨y, hoe⟩ := hcut
  have HOR : Hid (wc.heap[go]? = some (.cells y.L.toArray 31 (0, 0))) := hoe.row
  have HYI : Hid (RcIn y wc) := hoe.i
  have HUE : Hid (Turn tb w3 wc) := hoe.tu
  clear hoe
  have HXC : Hid (RcIn x1 wc ∧ wc.heap[gr]? = some (.cells x1.L.toArray 31 (0, 0))) := ⟨HX3.out.1.turnQ HT3.out HUE.out, (HUE.out.block _ (Array.getElem?_eq_some_iff.1 HX3.out.2).1 HG.out.1).trans HX3.out.2⟩
  have HWB : Hid (Below w.heap.size w wc) := HW3.out.2.2.trans (HUE.out.below (B := w.heap.size) (by omega) HT3.out.lt)
  have HWR : Hid (wc.heap[w.heap.size]? = some (.cells raw.L.toArray 31 (0, 0))) := (HUE.out.block _ (Array.getElem?_eq_some_iff.1 HW3.out.2.1).1 (by omega)).trans HW3.out.2.1
  clear HX3 HT3 HG HW3 HUE HPN
  go_upto_region 20 with (first
   | (refine wpList_load_row rfl 31 _ rfl gr rfl 31 _ (0, 0) _ HXC.out.2 Tryz.underlying31 rfl (infoRcA x1) ?_)
   | (refine wpList_load_row rfl 31 _ rfl go rfl 31 _ (0, 0) _ HOR.out Tryz.underlying31 rfl (infoRcA y) ?_)
   | (refine wpList_slice_eqQ rfl 42 2 [(0, .tmp 60), (1, .tmp 61)] rfl [(0, .agg x1.L.toArray), (1, .agg y.L.toArray)] rfl _ _ (sliceRc2 x1 y _) ?_))
  have HOW := zh (own_two x1 y wc)
  have HBD : Hid (Below wc.heap.size wc (wc.alloc (.cells (x1.L ++ y.L).toArray 31))) := (Below.refl _ _).alloc (Nat.le_refl _) _
  generalize World.alloc wc (.cells (x1.L ++ y.L).toArray 31) = wd at *
  have HWR2 : Hid (wd.heap[w.heap.size]? = some (.cells raw.L.toArray 31 (0, 0))) := (HBD.out.block _ (Array.getElem?_eq_some_iff.1 HWR.out).1).trans HWR.out
  have HWB2 : Hid (Below w.heap.size w wd) := HWB.out.trans (HBD.out.mono HWB.out.size)
  have HRA := zh (light_any raw wd (HX0.out.below HWB2.out))
  clear HWR HOR
  obtain ⟨gs, hgs⟩ : ∃ gs, gs = wc.heap.size := ⟨_, rfl⟩
  rw [← hgs] at HOW
  rw [← hgs]
  have HGS := zh hgs
  clear hgs
  go_wp2_with (refine wpList_load_row rfl 31 _ rfl w.heap.size rfl 31 _ (0, 0) _ HWR2.out Tryz.underlying31 rfl (infoRcA raw) ?_)
  refine HRA.out.mono ?_
  rintro e we ⟨b, rfl, hyes, hbe⟩
  have HYES := zh hyes; have HBE := zh hbe
  clear hyes hbe HRA
  have HBC : Hid (Below wc.heap.size wc we) := HBD.out.trans (HBE.out.mono HBD.out.size)
  have HBW3 : Hid (Below w.heap.size w we) := HWB2.out.trans (HBE.out.mono HWB2.out.size)
  have HOW2 : Hid (OwnR we gs (.slice (some ⟨gs, 0, none⟩) 2 2) [x1, y]) := HOW.out.below HBE.out
  have HWR3 : Hid (we.heap[w.heap.size]? = some (.cells raw.L.toArray 31 (0, 0))) := (HBE.out.block _ (Array.getElem?_eq_some_iff.1 HWR2.out).1).trans HWR2.out
  cases b
  ·go_wp2_with fail
   go_ret
   exact ⟨_, _, _, [x1, y], rfl, HOW2.out.recs rfl (all_two (HXC.out.1.below HBC.out) (HYI.out.below HBC.out)), by omega, HBW3.out⟩
  ·have HYE : Hid (RcIn raw we) := HYES.out rfl
   have HAF : Hid (Below we.heap.size we (we.alloc (.cells raw.L.toArray 31))) := (Below.refl _ _).alloc (Nat.le_refl _) _
   have HNW : Hid ((we.alloc (.cells raw.L.toArray 31)).heap[we.heap.size]? = some (.cells raw.L.toArray 31 (0, 0))) := heap_alloc_new _ _
   have hsz : gs ≤ we.heap.size := by rw [HGS.out]; exact HBC.out.size
   clear HYES HBE HOW HWR2 HWB2 HBD
   go_upto_region 22 with (first
    | (refine wpList_load_row rfl 31 _ rfl w.heap.size rfl 31 _ (0, 0) _ HWR3.out Tryz.underlying31 rfl (infoRcA raw) ?_)
    | (refine wpList_slice_eqQ rfl 42 1 [(0, .tmp 66)] rfl [(0, .agg raw.L.toArray)] rfl _ _ (sliceRc1 raw _) ?_
       generalize World.alloc we (.cells raw.L.toArray 31) = wf at *
       have HOW3 : Hid (OwnR wf gs (.slice (some ⟨gs, 0, none⟩) 2 2) [x1, y]) := HOW2.out.below HAF.out
       have hsf : gs ≤ wf.heap.size := Nat.le_trans hsz HAF.out.size
       have HBF : Hid (Below wc.heap.size wc wf) := HBC.out.trans (HAF.out.mono HBC.out.size)
       have HBW4 : Hid (Below w.heap.size w wf) := HBW3.out.trans (HAF.out.mono HBW3.out.size)
       generalize we.heap.size = ge at *)
    | (at_builtin
       refine wpList_append_rc rfl (.tmp 65) (.tmp 67) rfl gs _ [x1, y] 2 rfl rfl HOW3.out ge raw rfl HNW.out (by omega) hsf ?_
       intro sp9 cap9 w9 HW9 HB9 HG9))
   have HBX : Hid (Below wc.heap.size wc w9) := HBF.out.trans (by rw [← HGS.out]; exact HB9.out)
   have HBY : Hid (Below w.heap.size w w9) := HBW4.out.trans (HB9.out.mono (by rw [HGS.out]; exact HWB.out.size))
   have HAT := zh (HX0.out.below HBY.out)
   have HIN : Hid (RcIn raw w9) := ⟨HAT.out.c, HAT.out.v, HAT.out.m, HAT.out.p, HYE.out.b, HYE.out.s, HYE.out.t⟩
   go_wp2_with fail
   go_ret
   exact ⟨_, _, _, [x1, y] ++ [raw], rfl, HW9.out.recs rfl (all_three (HXC.out.1.below HBX.out) (HYI.out.below HBX.out) HIN.out), by omega, HBY.out⟩
end Go.Proofs.YtecllfbadciaoaaGreatDoor
