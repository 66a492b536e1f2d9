/-
  The walk of the reference's Name: it answers as document.Name does (for every string).
-/
import Derived.Test.YtecllfbadciaoaaGreatDoorZip
import Derived.Test.YtecllfbadciaoaaGreatDoorQ16
set_option maxRecDepth 100000
set_option maxHeartbeats 8000000
namespace Go.Proofs.YtecllfbadciaoaaGreatDoor
open Go.RowKit
theorem beqI {c : UInt8} {n : UInt8} : (((c.toNat : Nat) : Int) == ((n.toNat : Nat) : Int)) = (c == n) := by
 by_cases h : c = n
 ·subst h; simp
 ·have : ¬ c.toNat = n.toNat := fun e => h (UInt8.toNat_inj.1 e)
  rw [beq_eq_false_iff_ne.2 h, beq_eq_false_iff_ne.2 (by omega)]
theorem nmc_cases (c : UInt8) : nmc c = decide ((97 ≤ (c.toNat : Int) ∧ (c.toNat : Int) ≤ 122) ∨ (48 ≤ (c.toNat : Int) ∧ (c.toNat : Int) ≤ 57) ∨ (c.toNat : Int) = 46 ∨ (c.toNat : Int) = 95 ∨ (c.toNat : Int) = 45) := by
 have e1 : (c == 46) = decide ((c.toNat : Int) = 46) := by rw [← beqI]; rfl
 have e2 : (c == 95) = decide ((c.toNat : Int) = 95) := by rw [← beqI]; rfl
 have e3 : (c == 45) = decide ((c.toNat : Int) = 45) := by rw [← beqI]; rfl
 unfold nmc ldB digB
 rw [e1, e2, e3]
 simp only [Bool.decide_or, Bool.decide_and, Bool.or_assoc]
theorem ld_of_nmc {c : UInt8} (h : nmc c = true) (h1 : ((c.toNat : Int) == 46) = false) (h2 : ((c.toNat : Int) == 95) = false) (h3 : ((c.toNat : Int) == 45) = false) : ldB c.toNat = true := by
 rw [nmc_cases] at h
 have h := of_decide_eq_true h
 have h1 := beq_eq_false_iff_ne.1 h1
 have h2 := beq_eq_false_iff_ne.1 h2
 have h3 := beq_eq_false_iff_ne.1 h3
 unfold ldB digB
 simp only [← Bool.decide_and, ← Bool.decide_or]
 exact decide_eq_true (by omega)
theorem ld_not {c : UInt8} (h : (c.toNat : Int) = 46 ∨ (c.toNat : Int) = 95 ∨ (c.toNat : Int) = 45) : ldB c.toNat = false := by
 unfold ldB digB
 simp only [← Bool.decide_and, ← Bool.decide_or]
 exact decide_eq_false (by omega)
theorem ref_end {s : ByteArray} (h0 : 0 < s.size) (h : s.data.toList.all nmc = true) (h1 : ((s[0].toNat : Int) == 46) = false) (h2 : ((s[0].toNat : Int) == 95) = false) (h3 : ((s[0].toNat : Int) == 45) = false) : (ldB (s[0].toNat) && s.data.toList.all nmc) = true := by
 have hc : nmc s[0] = true := List.all_eq_true.1 h s[0] (by have : s[0] = s.data.toList[0]'(by simpa using h0) := rfl
                                                            rw [this]; exact List.getElem_mem _)
 rw [ld_of_nmc hc h1 h2 h3, h]; rfl
theorem refName_any (s : ByteArray) (w : World) (hs : s.size ≤ maxLen) :
 Calls Tryz.prog 51 #[.string s] w fun e w' => e = .returned (.bool (nmB s.data.toList)) ∧ w = w' := by
 unfold maxLen at hs
 by_cases h0 : s.size = 0
 ·have hn := nmB_empty h0
  generalize nmB s.data.toList = r at *
  have e0 : s.toList = [] := by rw [Lib.toList_data]; exact List.eq_nil_of_length_eq_zero (by rw [← Lib.size_eq]; exact h0)
  have HN := zh hn; clear hn
  go_enter Tryz.func51, Tryz.ntmps51
  go_wp2
  go_ret
  exact ⟨ret_bool HN.out.symm, rfl⟩
 ·have e0 : s.toList.isEmpty = false := by
   rw [Lib.toList_data, List.isEmpty_eq_false_iff]
   intro h; rw [Lib.size_eq, h] at h0; simp at h0
  have H0 : 0 < s.size := by omega
  by_cases h64 : 64 < s.size
  ·have HN := zh (nmB_long h64)
   generalize nmB s.data.toList = r at *
   go_enter Tryz.func51, Tryz.ntmps51
   go_wp2
   go_ret
   exact ⟨ret_bool HN.out.symm, rfl⟩
  ·have HN := zh (nmB_head H0 (by omega))
   generalize nmB s.data.toList = r at *
   by_cases hh : (s[0].toNat : Int) = 46 ∨ (s[0].toNat : Int) = 95 ∨ (s[0].toNat : Int) = 45
   ·have HL := zh (ld_not hh)
    rcases hh with hh | hh | hh
    ·have b1 : ((s[0].toNat : Int) == 46) = true := beq_iff_eq.2 hh
     clear hh
     go_enter Tryz.func51, Tryz.ntmps51
     go_wp2
     go_ret
     exact ⟨ret_bool (by rw [HN.out, HL.out]; rfl), rfl⟩
    ·have b1 : ((s[0].toNat : Int) == 46) = false := beq_eq_false_iff_ne.2 (by omega)
     have b2 : ((s[0].toNat : Int) == 95) = true := beq_iff_eq.2 hh
     clear hh
     go_enter Tryz.func51, Tryz.ntmps51
     go_wp2
     go_ret
     exact ⟨ret_bool (by rw [HN.out, HL.out]; rfl), rfl⟩
    ·have b1 : ((s[0].toNat : Int) == 46) = false := beq_eq_false_iff_ne.2 (by omega)
     have b2 : ((s[0].toNat : Int) == 95) = false := beq_eq_false_iff_ne.2 (by omega)
     have b3 : ((s[0].toNat : Int) == 45) = true := beq_iff_eq.2 hh
     clear hh
     go_enter Tryz.func51, Tryz.ntmps51
     go_wp2
     go_ret
     exact ⟨ret_bool (by rw [HN.out, HL.out]; rfl), rfl⟩
   ·have b1 : ((s[0].toNat : Int) == 46) = false := beq_eq_false_iff_ne.2 (by omega)
    have b2 : ((s[0].toNat : Int) == 95) = false := beq_eq_false_iff_ne.2 (by omega)
    have b3 : ((s[0].toNat : Int) == 45) = false := beq_eq_false_iff_ne.2 (by omega)
    clear hh
    go_enter Tryz.func51, Tryz.ntmps51
    go_wp2
    go_loop [3] (fun i => ∃ k : Nat, k ≤ s.size ∧ i = .int .i64 k ∧ Hid ((s.data.toList.take k).all nmc = true)) (fun i => s.size - (intOf i).toNat)
    case atStart => exact ⟨0, by omega, rfl, rfl⟩
    case round =>
     obtain ⟨k, hk, rfl, HA⟩ := hrel
     by_cases hlt : k < s.size
     ·have HS := zh (data_take_succ s k hlt)
      have HC := zh (nmc_cases s[k])
      have HF := zh (fun h => all_false_of (s := s) (k := k) hlt h)
      go_wp2
      all_goals first
       | (go_round
          case rel => exact ⟨k + 1, by omega, by go_num, by show _ = true; rw [HS.out, List.all_append, HA.out]; simp only [List.all_cons, List.all_nil, HC.out, Bool.and_true, Bool.true_and]; exact decide_eq_true (by simp_all <;> omega)⟩
          case measure => simp [intOf]; omega)
       | (go_ret
          exact ⟨ret_bool (by rw [HN.out, HF.out (by rw [HC.out]; exact decide_eq_false (by simp_all <;> omega))]; simp), rfl⟩)
     ·go_wp2
      go_ret
      exact ⟨ret_bool (by rw [HN.out]; rw [data_all s k (by omega)] at HA; exact (ref_end H0 HA.out b1 b2 b3).symm), rfl⟩
theorem segS_len (s : ByteArray) : (seg s).length = Lib.countB s (oneB 47) + 1 := Lib.splitB_all (oneB 47) (Nat.le_refl _) 0 _ s rfl
theorem segS_size (s : ByteArray) (n : Nat) (h : s.size ≤ n) : ∀ x ∈ seg s, x.size ≤ s.size := by
 induction n generalizing s with
 | zero =>
   intro x hx
   rcases ct_cases s with ⟨h1, h2, h3, h4⟩ | ⟨i, h1, h2, h3, h4, h5⟩
   ·rw [seg_miss s h4] at hx
    obtain rfl := List.mem_singleton.1 hx
    exact Nat.le_refl _
   ·omega
 | succ n ih =>
   intro x hx
   rcases ct_cases s with ⟨h1, h2, h3, h4⟩ | ⟨i, h1, h2, h3, h4, h5⟩
   ·rw [seg_miss s h4] at hx
    obtain rfl := List.mem_singleton.1 hx
    exact Nat.le_refl _
   ·rw [seg_hit s i h4] at hx
    rcases List.mem_cons.1 hx with rfl | hx
    ·rw [ByteArray.size_extract]; omega
    ·have h6 : (s.extract (i + 1) s.size).size ≤ n := by rw [ByteArray.size_extract]; omega
     have := ih _ h6 x hx
     rw [ByteArray.size_extract] at this
     omega
theorem refScope_any (s : ByteArray) (w : World) (hs : s.size ≤ 10000000) :
 Calls Tryz.prog 52 #[.string s] w fun e w' => e = .returned (.bool (scpB s)) ∧ Below w.heap.size w w' := by
 by_cases he : (s.toList == []) = true
 ·have HX : Hid (scpB s = true) := by show _ = _; unfold scpB; rw [he]; rfl
  have hl : s.toList = [] := by simpa using he
  clear he
  go_enter Tryz.func52, Tryz.ntmps52
  go_wp2_with fail
  go_ret
  exact ⟨by rw [HX.out]; rfl, Below.refl _ _⟩
 have he : (s.toList == []) = false := by simpa using he
 have HA : Hid (scpB s = ((seg s).all (fun x => nmB x.data.toList) && decide ((seg s).length ≤ 4))) := by show _ = _; unfold scpB; rw [he]; rfl
 have hl2 : ¬ s.toList = [] := by simpa using he
 have HSP := zh (fun w => split_anyS s 47 w hs)
 have hlen := segS_len s
 have hle := Lib.countB_le (oneB 47) (Nat.le_refl _) s.size s (Nat.le_refl _)
 have HZ := zh (segS_size s s.size (Nat.le_refl _))
 obtain ⟨N, hN⟩ : ∃ N, Lib.countB s (oneB 47) = N := ⟨_, rfl⟩
 rw [show Lib.splitB (oneB 47) 0 (Lib.countB s (oneB 47)) s = seg s from rfl, hN] at HSP
 rw [hN] at hlen hle
 have HL := zh hlen
 have hsz : N ≤ 10000000 := by omega
 have HSS := zh hs
 clear hN hlen he hle hs
 go_enter Tryz.func52, Tryz.ntmps52
 go_wp2_with fail
 refine (HSP.out _).mono ?_
 rintro e w1 ⟨rfl, hw1⟩
 have hrow : w1.heap[w.heap.size]? = some (.cells ((seg s).map Value.string).toArray 9 (0, 0)) := by rw [hw1]; exact heap_alloc_new w _
 have HB1 : Hid (Below w.heap.size w w1) := by show Below _ _ _; rw [hw1]; exact (Below.refl _ _).alloc (Nat.le_refl _) _
 have hcell : ∀ j, j < N + 1 → w1.cell? ⟨w.heap.size, j, none⟩ = some (.string ((seg s).getD j ByteArray.empty)) := fun j hj => by
  rw [cell_of_row w1 _ j _ _ _ hrow]; simp [HL.out, hj]
 have HCL := zh hcell
 clear hw1 hrow hcell HSP hl2
 go_wp2_with fail
 go_loopw [4] (fun i wx => ∃ k : Nat, k ≤ N + 1 ∧ i = .int .i64 k ∧ Hid (((seg s).take k).all (fun x => nmB x.data.toList) = true) ∧ Hid (wx = w1)) (fun i _ => N + 1 - (intOf i).toNat)
 case atStart => exact ⟨0, Nat.zero_le _, rfl, rfl, rfl⟩
 case round =>
  obtain ⟨k, hk, rfl, HG, hw⟩ := hrel
  obtain rfl := hw.out
  clear hw
  by_cases hlt : k < N + 1
  ·have hd2 : decide ((k : Int) < (N : Int) + 1) = true := by simp; omega
   have p1 : (0 : Int) ≤ (k : Int) := by omega
   have p2 : (k : Int) < (N : Int) + 1 := by omega
   have c1 := HCL.out k hlt
   have hkl : k < (seg s).length := by rw [HL.out]; exact hlt
   have hx0 : (seg s).getD k ByteArray.empty = (seg s)[k] := by rw [List.getD_eq_getElem?_getD, List.getElem?_eq_getElem hkl]; rfl
   have HSN : Hid (((seg s).take (k + 1)).all (fun x => nmB x.data.toList) = (((seg s).take k).all (fun x => nmB x.data.toList) && nmB ((seg s).getD k ByteArray.empty).data.toList)) := by
    show _ = _
    rw [List.take_succ_eq_append_getElem hkl, List.all_append, hx0]; simp
   have HBAD : Hid (nmB ((seg s).getD k ByteArray.empty).data.toList = false → (seg s).all (fun x => nmB x.data.toList) = false) := fun h => by
    rw [hx0] at h
    rw [List.all_eq_false]
    exact ⟨(seg s)[k], List.getElem_mem hkl, by rw [h]; simp⟩
   have HSX : Hid (((seg s).getD k ByteArray.empty).size ≤ maxLen) := by
    have h1 := HZ.out (seg s)[k] (List.getElem_mem hkl)
    have h2 := HSS.out
    show _ ≤ _; rw [hx0]; unfold maxLen; omega
   clear hx0 hkl
   obtain ⟨x, hx⟩ : ∃ x, (seg s).getD k ByteArray.empty = x := ⟨_, rfl⟩
   rw [hx] at c1 HSN HBAD HSX
   clear hx
   have HN := zh (fun w => refName_any x w HSX.out)
   by_cases hg : nmB x.data.toList = true
   ·rw [hg] at HN HSN
    have HGN : Hid (((seg s).take (k + 1)).all (fun x => nmB x.data.toList) = true) := by show _ = _; rw [HSN.out, HG.out]; rfl
    clear hg HBAD HSN
    go_wp2_with fail
    refine (HN.out _).mono ?_
    rintro e w2 ⟨rfl, rfl⟩
    go_wp2_with fail
    go_roundw
    case rel => exact ⟨k + 1, by omega, by go_num, HGN, by first | rfl | exact trivial⟩
    case measure => simp [intOf]; omega
   ·have hg : nmB x.data.toList = false := by simpa using hg
    have HX : Hid (scpB s = false) := by show _ = _; rw [HA.out, HBAD.out hg]; rfl
    rw [hg] at HN
    clear hg HBAD HSN
    go_wp2_with fail
    refine (HN.out _).mono ?_
    rintro e w2 ⟨rfl, rfl⟩
    go_wp2_with fail
    go_ret
    exact ⟨by rw [HX.out]; rfl, HB1.out⟩
  ·obtain rfl : k = N + 1 := by omega
   have hd2 : decide ((N : Int) + 1 < (N : Int) + 1) = false := by simp
   have hcast : ((N + 1 : Nat) : Int) = (N : Int) + 1 := by omega
   have HX : Hid (scpB s = decide (((N : Int) + 1) ≤ 4)) := by
    show _ = _; rw [HA.out]
    have := HG.out
    rw [List.take_of_length_le (by rw [HL.out]; exact Nat.le_refl _)] at this
    rw [this, HL.out, Bool.true_and]
    exact decide_eq_decide.2 ⟨fun h => by omega, fun h => by omega⟩
   go_wp2_with fail
   go_ret
   exact ⟨by rw [HX.out]; rfl, HB1.out⟩
theorem wpList_load_mid_gR {P : Program} {ops : Array Oper} {rest : List Oper} {o : Oper} {a : Act} {w : World} {Q : Exit → Act → World → Prop} (hw : Region.wanted o (yielded ops a.tmps) = true) (ty : TypeId) (x : Operand) (ho : o.op = .load ty x)
 (b k : Nat) (hx : a.eval x = .pointer (some ⟨b, k, none⟩)) (cs : List Value) (d : TypeDesc) (hc : w.rangeAt b k cs)
 (hu : P.underlying ty = some d) (hd : d.isRow = true) (hi : (P.info? ty).map (·.size) = some cs.length)
 (h : wpList P ops Q rest (a.put o.dst (.agg cs.toArray)) w) : wpList P ops Q (o :: rest) a w :=
 wpList_step fun K hK => by rw [if_pos hw]; exact wp_load_mid ty x ho b k hx cs d hc hu hd hi (hK _ _ h)
theorem row_rngR {w : World} {g : Nat} {L : List Value} {t : TypeId} {fr : Nat × Nat} (hg : w.heap[g]? = some (.cells L.toArray t fr)) : w.rangeAt g 0 L := fun j v hv => by rw [Nat.zero_add]; exact heap_cellR hg hv
theorem awake12_any (w : World) (ht : Lib.TabIs Tryz.prog w "internal/strconv.uint64pow10" .u64 Lib.pow10Tab) (hg : 1 < w.heap.size) :
 Calls Tryz.prog 11 #[] w fun e w' => e = .returned (.bool true) ∧ Below w.heap.size w w' := by
 have HT := zh ht
 have HSC : Hid (scpB ⟨#[97, 47, 98]⟩ = true) := by show _ = _; decide +kernel
 have hB := buildR0 w
 go_enter Tryz.func11, Tryz.ntmps11
 go_upto_region 2 with (refine wpList_store_row rfl 31 _ _ rfl w.heap.size r0L.toArray rfl rfl 31 _ (heap_alloc_new w _) infoR0A rfl oneR0 ?_; rw [setRow_new])
 generalize hw0 : World.alloc w _ = w0
 have HR0 : Hid (w0.heap[w.heap.size]? = some (.cells r0L.toArray 31 (0, 0))) := by rw [← hw0]; exact heap_alloc_new _ _
 have HB0 : Hid (Below w.heap.size w w0) := by rw [← hw0]; exact (Below.refl _ _).alloc (Nat.le_refl _) _
 have hlt : w.heap.size < w0.heap.size := by rw [← hw0]; simp
 clear hw0 hB
 have HE := zh (encode0_any w0 (tabIs_belowR HT.out HB0.out hg) (Nat.lt_trans hg hlt))
 go_wp2_with (refine wpList_load_row rfl 31 _ rfl w.heap.size rfl 31 _ (0, 0) _ HR0.out Tryz.underlying31 rfl infoR0A ?_)
 refine HE.out.mono ?_
 rintro e w1 ⟨v, rfl, hown, hb⟩
 have hcv := run_string_own hown.out
 have HR1 := zh (row_rngR ((hb.block _ hlt).trans HR0.out))
 have HB1 : Hid (Below w.heap.size w w1) := HB0.out.trans (hb.mono HB0.out.size)
 have hlt1 : w.heap.size < w1.heap.size := by have := hb.size; omega
 clear hown hb HR0 HB0 hlt HE HT ht hg
 have HBS : Hid ((⟨bs0.toArray⟩ : ByteArray) = ⟨#[114, 101, 99, 111, 114, 100, 32, 114, 32, 126, 32, 115, 32, 51, 10, 99, 111, 109, 109, 97, 110, 100, 10]⟩) := rfl
 rw [HBS.out] at hcv
 go_wp2_with (refine wpList_load_mid_gR (by rfl) 31 _ rfl w.heap.size 0 rfl _ _ HR1.out Tryz.underlying31 rfl infoR0 ?_)
 refine (valid0_any w1).mono ?_
 rintro e w2 ⟨rfl, hb⟩
 have HB2 : Hid (Below w.heap.size w w2) := HB1.out.trans (hb.mono HB1.out.size)
 clear hb hcv HR1 HB1 hlt1
 go_wp2_with fail
 refine (Scope_any ⟨#[97, 47, 98]⟩ w2 (by decide)).mono ?_
 rintro e w3 ⟨rfl, hb⟩
 rw [HSC.out]
 have HB3 : Hid (Below w.heap.size w w3) := HB2.out.trans (hb.mono HB2.out.size)
 clear hb
 go_wp2_with fail
 go_ret
 exact ⟨rfl, HB3.out⟩
theorem LookRes.uni {w w' : World} {s : List En} {p : ByteArray} {e : Ending} (h : LookRes w (fe s p) e w') : ∃ c : Bool, e = .returned (.tuple #[.agg ((dg? s p).map (Value.int .u8)).toArray, .bool c]) ∧ Below w.heap.size w w' := by
 unfold dg?
 cases k : fe s p with
 | none => rw [k] at h; exact ⟨false, h⟩
 | some x => rw [k] at h; exact ⟨true, h⟩
theorem FindRes.uni {w w' : World} {l : List Cg} {p : ByteArray} {e : Ending} (hl : ∀ x ∈ l, OkC x) (h : FindRes w (fd l p) e w') : ∃ y : Cg, OkC y ∧ e = .returned (.tuple #[.agg (cgL y).toArray, .bool (fd l p).isSome]) ∧ Below w.heap.size w w' := by
 cases k : fd l p with
 | none => rw [k] at h; exact ⟨⟨⟨#[]⟩, zed, zed⟩, zeroCg_ok, h⟩
 | some x => rw [k] at h; exact ⟨x, hl x (fd_some k).1, h⟩
structure DpS (w : World) (bx : Nat) (d : List Int) (W : World) : Prop where
 below : Below w.heap.size w W
 box : W.heap[bx]? = some (.cells (d.map (Value.int .u8)).toArray 80 (0, 0))
theorem DpS.lt {w : World} {bx : Nat} {d : List Int} {W : World} (h : DpS w bx d W) : bx < W.heap.size := (Array.getElem?_eq_some_iff.1 h.box).1
theorem DpS.next {w : World} {bx : Nat} {d : List Int} {W W' : World} (h : DpS w bx d W) (hb : Below W.heap.size W W') : DpS w bx d W' :=
 ⟨h.below.trans (hb.mono h.below.size), (hb.block bx h.lt).trans h.box⟩
theorem DpS.row {w : World} {bx : Nat} {d : List Int} {W : World} (h : DpS w bx d W) : W.rangeAt bx 0 (d.map (Value.int .u8)) := range_row (pre := []) (post := []) h.box (by simp) rfl
end Go.Proofs.YtecllfbadciaoaaGreatDoor
