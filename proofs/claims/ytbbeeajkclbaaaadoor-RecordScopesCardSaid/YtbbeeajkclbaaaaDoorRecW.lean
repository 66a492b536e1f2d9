/-
  The walk of RecordScopes, and of the check awake of its package (condition: the table of powers of ten reads as it is laid).
-/
import Derived.Test.YtbbeeajkclbaaaaDoorZip
import Derived.Test.YtbbeeajkclbaaaaDoorRecE
import Derived.Test.YtbbeeajkclbaaaaDoorRecB
set_option maxRecDepth 100000
set_option maxHeartbeats 8000000
namespace Go.Proofs.YtbbeeajkclbaaaaDoor
open Go.RowKit
theorem wpList_load_mid_gR {P : Program} {ops : Array Oper} {rest : List Oper} {o : Oper} {a : Act} {w : World} {Q : Exit → Act → World → Prop} (hw : Region.wanted o (yielded ops a.tmps) = true) (ty : TypeId) (x : Operand) (ho : o.op = .load ty x)
 (b k : Nat) (hx : a.eval x = .pointer (some ⟨b, k, none⟩)) (cs : List Value) (d : TypeDesc) (hc : w.rangeAt b k cs)
 (hu : P.underlying ty = some d) (hd : d.isRow = true) (hi : (P.info? ty).map (·.size) = some cs.length)
 (h : wpList P ops Q rest (a.put o.dst (.agg cs.toArray)) w) : wpList P ops Q (o :: rest) a w :=
 wpList_step fun K hK => by rw [if_pos hw]; exact wp_load_mid ty x ho b k hx cs d hc hu hd hi (hK _ _ h)
theorem row_rngR {w : World} {g : Nat} {L : List Value} {t : TypeId} {fr : Nat × Nat} (hg : w.heap[g]? = some (.cells L.toArray t fr)) : w.rangeAt g 0 L := fun j v hv => by rw [Nat.zero_add]; exact heap_cellR hg hv
theorem awake12_any (w : World) (ht : Lib.TabIs Tryd.prog w "internal/strconv.uint64pow10" .u64 Lib.pow10Tab) (hg : 1 < w.heap.size) :
 Calls Tryd.prog 5 #[] w fun e w' => e = .returned (.bool true) ∧ Below w.heap.size w w' := by
 have HT := zh ht
 have HSC : Hid (scpB ⟨#[97, 47, 98]⟩ = true) := by show _ = _; decide +kernel
 have hB := buildR0 w
 go_enter Tryd.func5, Tryd.ntmps5
 go_upto_region 2 with (refine wpList_store_row rfl 30 _ _ rfl w.heap.size r0L.toArray rfl rfl 30 _ (heap_alloc_new w _) infoR0A rfl oneR0 ?_; rw [setRow_new])
 generalize hw0 : World.alloc w _ = w0
 have HR0 : Hid (w0.heap[w.heap.size]? = some (.cells r0L.toArray 30 (0, 0))) := by rw [← hw0]; exact heap_alloc_new _ _
 have HB0 : Hid (Below w.heap.size w w0) := by rw [← hw0]; exact (Below.refl _ _).alloc (Nat.le_refl _) _
 have hlt : w.heap.size < w0.heap.size := by rw [← hw0]; simp
 clear hw0 hB
 have HE := zh (encode0_any w0 (tabIs_belowR HT.out HB0.out hg) (Nat.lt_trans hg hlt))
 go_wp2_with (refine wpList_load_row rfl 30 _ rfl w.heap.size rfl 30 _ (0, 0) _ HR0.out Tryd.underlying30 rfl infoR0A ?_)
 refine HE.out.mono ?_
 rintro e w1 ⟨v, rfl, hown, hb⟩
 have hcv := run_string_own hown.out
 have HR1 := zh (row_rngR ((hb.block _ hlt).trans HR0.out))
 have HB1 : Hid (Below w.heap.size w w1) := HB0.out.trans (hb.mono HB0.out.size)
 have hlt1 : w.heap.size < w1.heap.size := by have := hb.size; omega
 clear hown hb HR0 HB0 hlt HE HT ht hg
 have HBS : Hid ((⟨bs0.toArray⟩ : ByteArray) = ⟨#[114, 101, 99, 111, 114, 100, 32, 114, 32, 126, 32, 115, 32, 51, 10, 99, 111, 109, 109, 97, 110, 100, 10]⟩) := rfl
 rw [HBS.out] at hcv
 go_wp2_with (refine wpList_load_mid_gR (by rfl) 30 _ rfl w.heap.size 0 rfl _ _ HR1.out Tryd.underlying30 rfl infoR0 ?_)
 refine (valid0_any w1).mono ?_
 rintro e w2 ⟨rfl, hb⟩
 have HB2 : Hid (Below w.heap.size w w2) := HB1.out.trans (hb.mono HB1.out.size)
 clear hb hcv HR1 HB1 hlt1
 go_wp2_with fail
 refine (Scope_any ⟨#[97, 47, 98]⟩ w2 (by decide)).mono ?_
 rintro e w3 ⟨rfl, hb⟩
 rw [HSC.out]
 have HB3 : Hid (Below w.heap.size w w3) := HB2.out.trans (hb.mono HB2.out.size)
 clear hb
 go_wp2_with fail
 go_ret
 exact ⟨rfl, HB3.out⟩
theorem recordScopes_any (s t : ByteArray) (w : World) (hs : s.size ≤ 9223372036854775807) (ht : t.size ≤ 9223372036854775807) (hp : Lib.TabIs Tryd.prog w "internal/strconv.uint64pow10" .u64 Lib.pow10Tab) (hg : 1 < w.heap.size) :
 Calls Tryd.prog 3 #[.string s, .string t] w fun e w' => e = .returned (.bool true) ∧ Below w.heap.size w w' := by
 by_cases h1 : s.size > 500
 ·have hd : decide ((s.size : Int) > 500) = true := by simp; omega
  go_enter Tryd.func3, Tryd.ntmps3
  go_wp2_with fail
  go_ret
  exact ⟨rfl, Below.refl _ _⟩
 have hd : decide ((s.size : Int) > 500) = false := by simp; omega
 by_cases h2 : t.size > 300
 ·have hd2 : decide ((t.size : Int) > 300) = true := by simp; omega
  go_enter Tryd.func3, Tryd.ntmps3
  go_wp2_with fail
  go_ret
  exact ⟨rfl, Below.refl _ _⟩
 have hd2 : decide ((t.size : Int) > 300) = false := by simp; omega
 have hsz : s.size ≤ 500 := by omega
 have htz : t.size ≤ 300 := by omega
 have HA := zh (awake12_any w hp hg)
 have H1 := zh (fun w => Scope_any s w (by unfold maxLen; omega))
 have H2 := zh (fun w => refScope_any s w (by omega))
 have H3 := zh (fun w => Inner_any s t w (by omega) (by omega))
 have H4 := zh (fun w => refInner_any s t w (by omega) (by omega))
 clear h1 h2 hs ht hp hg hsz htz
 generalize scpB s = b1 at *
 generalize innB s t = i1 at *
 go_enter Tryd.func3, Tryd.ntmps3
 go_wp2_with fail
 refine HA.out.mono ?_
 rintro e w1 ⟨rfl, hb⟩
 have HB1 := zh hb
 clear hb HA hd hd2
 go_wp2_with fail
 refine (H1.out w1).mono ?_
 rintro e w2 ⟨rfl, hb⟩
 have HB2 : Hid (Below w.heap.size w w2) := HB1.out.trans (hb.mono HB1.out.size)
 clear hb H1 HB1
 go_wp2_with fail
 refine (H2.out w2).mono ?_
 rintro e w3 ⟨rfl, hb⟩
 have HB3 : Hid (Below w.heap.size w w3) := HB2.out.trans (hb.mono HB2.out.size)
 have q1 : (b1 == b1) = true := by simp
 clear hb H2 HB2
 go_wp2_with fail
 refine (H3.out w3).mono ?_
 rintro e w4 ⟨rfl, rfl⟩
 go_wp2_with fail
 refine (H4.out w3).mono ?_
 rintro e w4 ⟨rfl, rfl⟩
 go_wp2_with fail
 go_ret
 exact ⟨rfl, HB3.out⟩
end Go.Proofs.YtbbeeajkclbaaaaDoor
