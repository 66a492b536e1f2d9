/-
  The walk of the reference's Name: it answers as document.Name does (for every string).
-/
import Derived.Test.YtecllfbadciaoaaGreatDoorZip
import Derived.Test.YtecllfbadciaoaaGreatDoorQ14
set_option maxRecDepth 100000
set_option maxHeartbeats 8000000
namespace Go.Proofs.YtecllfbadciaoaaGreatDoor
open Go.RowKit
theorem wpList_load_mid_gR {P : Program} {ops : Array Oper} {rest : List Oper} {o : Oper} {a : Act} {w : World} {Q : Exit → Act → World → Prop} (hw : Region.wanted o (yielded ops a.tmps) = true) (ty : TypeId) (x : Operand) (ho : o.op = .load ty x)
 (b k : Nat) (hx : a.eval x = .pointer (some ⟨b, k, none⟩)) (cs : List Value) (d : TypeDesc) (hc : w.rangeAt b k cs)
 (hu : P.underlying ty = some d) (hd : d.isRow = true) (hi : (P.info? ty).map (·.size) = some cs.length)
 (h : wpList P ops Q rest (a.put o.dst (.agg cs.toArray)) w) : wpList P ops Q (o :: rest) a w :=
 wpList_step fun K hK => by rw [if_pos hw]; exact wp_load_mid ty x ho b k hx cs d hc hu hd hi (hK _ _ h)
theorem row_rngR {w : World} {g : Nat} {L : List Value} {t : TypeId} {fr : Nat × Nat} (hg : w.heap[g]? = some (.cells L.toArray t fr)) : w.rangeAt g 0 L := fun j v hv => by rw [Nat.zero_add]; exact heap_cellR hg hv
theorem awake12_any (w : World) (ht : Lib.TabIs Tryz.prog w "internal/strconv.uint64pow10" .u64 Lib.pow10Tab) (hg : 1 < w.heap.size) :
 Calls Tryz.prog 11 #[] w fun e w' => e = .returned (.bool true) ∧ Below w.heap.size w w' := by
 have HT := zh ht
 have HSC : Hid (scpB ⟨#[97, 47, 98]⟩ = true) := by show _ = _; decide +kernel
 have hB := buildR0 w
 go_enter Tryz.func11, Tryz.ntmps11
 go_upto_region 2 with (refine wpList_store_row rfl 31 _ _ rfl w.heap.size r0L.toArray rfl rfl 31 _ (heap_alloc_new w _) infoR0A rfl oneR0 ?_; rw [setRow_new])
 generalize hw0 : World.alloc w _ = w0
 have HR0 : Hid (w0.heap[w.heap.size]? = some (.cells r0L.toArray 31 (0, 0))) := by rw [← hw0]; exact heap_alloc_new _ _
 have HB0 : Hid (Below w.heap.size w w0) := by rw [← hw0]; exact (Below.refl _ _).alloc (Nat.le_refl _) _
 have hlt : w.heap.size < w0.heap.size := by rw [← hw0]; simp
 clear hw0 hB
 have HE := zh (encode0_any w0 (tabIs_belowR HT.out HB0.out hg) (Nat.lt_trans hg hlt))
 go_wp2_with (refine wpList_load_row rfl 31 _ rfl w.heap.size rfl 31 _ (0, 0) _ HR0.out Tryz.underlying31 rfl infoR0A ?_)
 refine HE.out.mono ?_
 rintro e w1 ⟨v, rfl, hown, hb⟩
 have hcv := run_string_own hown.out
 have HR1 := zh (row_rngR ((hb.block _ hlt).trans HR0.out))
 have HB1 : Hid (Below w.heap.size w w1) := HB0.out.trans (hb.mono HB0.out.size)
 have hlt1 : w.heap.size < w1.heap.size := by have := hb.size; omega
 clear hown hb HR0 HB0 hlt HE HT ht hg
 have HBS : Hid ((⟨bs0.toArray⟩ : ByteArray) = ⟨#[114, 101, 99, 111, 114, 100, 32, 114, 32, 126, 32, 115, 32, 51, 10, 99, 111, 109, 109, 97, 110, 100, 10]⟩) := rfl
 rw [HBS.out] at hcv
 go_wp2_with (refine wpList_load_mid_gR (by rfl) 31 _ rfl w.heap.size 0 rfl _ _ HR1.out Tryz.underlying31 rfl infoR0 ?_)
 refine (valid0_any w1).mono ?_
 rintro e w2 ⟨rfl, hb⟩
 have HB2 : Hid (Below w.heap.size w w2) := HB1.out.trans (hb.mono HB1.out.size)
 clear hb hcv HR1 HB1 hlt1
 go_wp2_with fail
 refine (Scope_any ⟨#[97, 47, 98]⟩ w2 (by decide)).mono ?_
 rintro e w3 ⟨rfl, hb⟩
 rw [HSC.out]
 have HB3 : Hid (Below w.heap.size w w3) := HB2.out.trans (hb.mono HB2.out.size)
 clear hb
 go_wp2_with fail
 go_ret
 exact ⟨rfl, HB3.out⟩
theorem eql_nilE (n c : Nat) (w : World) : (binOp .eql 29 (.slice none n c) (.slice none 0 0)).run Tryz.prog w = .ok (.bool true) w := by kernel_rfl
theorem eql_someE (ad : Addr) (n c : Nat) (w : World) : (binOp .eql 29 (.slice (some ad) n c) (.slice none 0 0)).run Tryz.prog w = .ok (.bool false) w := by kernel_rfl
theorem wpList_appendsR {w : World} {ops : Array Oper} {rest : List Oper} {o : Oper} {a : Act} {Q : Exit → Act → World → Prop} (hgd : o.guard = none) (s x : Operand)
 (ho : o.op = .call { callee := .builtin .append, args := #[s, x], argTypes := #[29, 29] }) (base : Nat) (v : Value) (l : List En) (n : Nat) (hn : n = l.length) (hs : a.eval s = v) (hown : OwnE w base v l)
 (ad : Addr) (m c : Nat) (hx : a.eval x = .slice (some ad) m c) {B : Nat} {l2 : List En} (hsrc : EnsIn w B (some ad) m c l2) (hlen : n ≤ 1000000) (hm : m ≤ 1000000) (hbase : base ≤ w.heap.size)
 (h : ∀ sp' cap w', Hid (OwnE w' base (.slice sp' (n + m) cap) (l ++ l2)) → Hid (Below base w w') → wpList Tryz.prog ops Q rest (a.put o.dst (.slice sp' (n + m) cap)) w') : wpList Tryz.prog ops Q (o :: rest) a w := by
 refine wpList_plain hgd fun K hK => ?_
 exact wp_appendsEnS s x ho base v l n hn hs hown (some ad) m c hx hsrc (by intro h; cases h) hlen hm hbase fun sp' cap w' h1 h2 => hK _ _ (h sp' cap w' h1 h2)
theorem cloneE_any (sp : Option Addr) (n cap : Nat) (l : List En) (w : World) (hl : EnsIn w w.heap.size sp n cap l) (hn : n ≤ 1000000) :
 Calls Tryz.prog 42 #[.slice sp n cap] w fun e w' => ∃ sp' cap', e = .returned (.slice sp' n cap') ∧ Hid (EnsIn w' w'.heap.size sp' n cap' l) ∧ Below w.heap.size w w' := by
 have HS := zh hl
 have HLN := zh hl.len
 have hz : sp = none → n = 0 := fun h => by
  by_cases h0 : 0 < n
  ·obtain ⟨_, _, e, _⟩ := hl.cells h0; rw [h] at e; cases e
  ·omega
 clear hl
 cases sp with
 | none =>
   obtain rfl := hz rfl
   have HLE : Hid (l = []) := List.eq_nil_of_length_eq_zero HLN.out
   have hq := eql_nilE
   go_enter Tryz.func42, Tryz.ntmps42
   go_wp2_with fail
   go_ret
   exact ⟨none, 0, rfl, by show EnsIn _ _ _ _ _ _; rw [HLE.out]; exact ⟨rfl, fun x hx => (by cases hx), fun h => by omega⟩, Below.refl _ _⟩
 | some ad =>
   clear hz
   have hq := eql_someE
   have HW1 : Hid (OwnE (w.alloc (.cells #[] 82)) w.heap.size (.slice (some ⟨w.heap.size, 0, none⟩) 0 0) []) := own_empty w _ (Nat.le_refl _)
   have HB1 : Hid (Below w.heap.size w (w.alloc (.cells #[] 82))) := (Below.refl _ _).alloc (Nat.le_refl _) _
   have HS1 := zh (HS.out.below HB1.out (Nat.le_refl _))
   have HZ1 : Hid (w.heap.size ≤ (w.alloc (.cells #[] 82)).heap.size) := HB1.out.size
   go_enter Tryz.func42, Tryz.ntmps42
   go_wp2_with (first
    | (at_builtin; refine wpList_appendsR rfl (.tmp 5) (.tmp 6) rfl w.heap.size _ [] 0 rfl rfl HW1.out ad n cap rfl HS1.out (by decide) hn HZ1.out ?_; intro sp2 cap2 w2 HO2 HB2)
    | (refine wpList_slice_eqQ rfl 29 0 [] rfl [] rfl _ _ (slice0 _) ?_; generalize World.alloc w (.cells #[] 82) = w1 at *))
   have HB12 : Hid (Below w.heap.size w w2) := HB1.out.trans HB2.out
   have ho := HO2.out
   rw [Nat.zero_add, List.nil_append] at ho
   have HO3 := zh (OwnE.ens ho HLN.out)
   clear ho HB1 HB2 HO2
   go_wp2_with fail
   go_ret
   exact ⟨sp2, cap2, rfl, HO3.out, HB12.out⟩
def finR : Option (List En) → Except Int (List En)
 | none => .error 9
 | some m => if 64 < m.length then .error 3 else .ok m
def sRApply (s : List En) (l : List Cg) : Except Int (List En) := if vldE s && vldC l then finR (rapp s l) else .error 1
theorem finA_eq (o : Option (List Cg)) : finA o = finR (match o with | none => none | some m => if m.any needB then none else some (m.map toE)) := by
 cases o with
 | none => rfl
 | some m =>
   rw [finA_some]
   show _ = finR (if m.any needB then none else some (m.map toE))
   split
   ·rfl
   ·show _ = (if 64 < (m.map toE).length then (.error 3 : Except Int (List En)) else .ok (m.map toE))
    rw [List.length_map]
theorem sRApply_eq (s : List En) (l : List Cg) : sRApply s l = sApply s l := by
 unfold sRApply sApply
 by_cases h : (vldE s && vldC l) = true
 ·rw [if_pos h, if_pos h]
  rw [Bool.and_eq_true] at h
  rw [← capp_eq (vldE_parts h.1).2.1 (vldC_parts h.2).2.1 (vldE_parts h.1).2.2 (vldC_parts h.2).2.2, finA_eq]
  rfl
 ·rw [if_neg h, if_neg h]
theorem dg?_ok {s : List En} (h : ∀ x ∈ s, OkE x) (p : ByteArray) : D32 (dg? s p) := by
 unfold dg?
 cases e : fe s p with
 | none => exact D32.zed
 | some x => exact h x (fe_some e).1
theorem LookRes.uni {w w' : World} {s : List En} {p : ByteArray} {e : Ending} (h : LookRes w (fe s p) e w') : ∃ c : Bool, e = .returned (.tuple #[.agg ((dg? s p).map (Value.int .u8)).toArray, .bool c]) ∧ Below w.heap.size w w' := by
 unfold dg?
 cases k : fe s p with
 | none => rw [k] at h; exact ⟨false, h⟩
 | some x => rw [k] at h; exact ⟨true, h⟩
theorem FindRes.uni {w w' : World} {l : List Cg} {p : ByteArray} {e : Ending} (hl : ∀ x ∈ l, OkC x) (h : FindRes w (fd l p) e w') : ∃ y : Cg, OkC y ∧ e = .returned (.tuple #[.agg (cgL y).toArray, .bool (fd l p).isSome]) ∧ Below w.heap.size w w' := by
 cases k : fd l p with
 | none => rw [k] at h; exact ⟨⟨⟨#[]⟩, zed, zed⟩, zeroCg_ok, h⟩
 | some x => rw [k] at h; exact ⟨x, hl x (fd_some k).1, h⟩
structure DpS (w : World) (bx : Nat) (d : List Int) (W : World) : Prop where
 below : Below w.heap.size w W
 box : W.heap[bx]? = some (.cells (d.map (Value.int .u8)).toArray 80 (0, 0))
theorem DpS.lt {w : World} {bx : Nat} {d : List Int} {W : World} (h : DpS w bx d W) : bx < W.heap.size := (Array.getElem?_eq_some_iff.1 h.box).1
theorem DpS.next {w : World} {bx : Nat} {d : List Int} {W W' : World} (h : DpS w bx d W) (hb : Below W.heap.size W W') : DpS w bx d W' :=
 ⟨h.below.trans (hb.mono h.below.size), (hb.block bx h.lt).trans h.box⟩
theorem DpS.row {w : World} {bx : Nat} {d : List Int} {W : World} (h : DpS w bx d W) : W.rangeAt bx 0 (d.map (Value.int .u8)) := range_row (pre := []) (post := []) h.box (by simp) rfl
theorem fold_step {α β : Type} {f : β → α → β} {l : List α} {i : β} {k : Nat} {x : α} {o : β} (h : (l.take k).foldl f i = o) (hx : l[k]? = some x) : (l.take (k + 1)).foldl f i = f o x := by
 rw [List.take_add_one, hx, List.foldl_append, h]; rfl
end Go.Proofs.YtecllfbadciaoaaGreatDoor
