/-
  One-time signatures: the walks of Combine, the program's and the reference's (conditions: at most 1000 ends; the table of constants reads as it is laid).
-/
import Derived.Test.YtkeieacmboidoaaDoorOneL
namespace Go.Proofs.YtkeieacmboidoaaDoor
open Go.RowKit Go.Proofs.YtkeieacmboidoaaDoor.One

theorem endP_src {w : World} {B eb eo n cap : Nat} {l : List (List Int)} (h : HvsIn w B (some ⟨eb, eo, none⟩) n cap l) {i : Nat} (hi : i < n) : Src w B (endP eb eo l i).sp (endP eb eo l i).n (endP eb eo l i).cap (endP eb eo l i).b := by
  have h16 := h.at16 hi
  obtain ⟨b, off, e, hlt, hc, hr⟩ := h.cells (by omega)
  injection e with e; injection e with e1 e2; subst e1 e2
  refine ⟨h16.1, h16.2, fun _ => ⟨eb, eo + i * 16, rfl, hlt, Nat.le_refl _, fun j hj => ?_⟩⟩
  exact hr i hi j _ (getD_map _ _ _ _ (by rw [h16.1]; exact hj))
theorem src_row {w : World} {g B n : Nat} {t : TypeId} {L : List Int} (hg : RowIn w g t .u8 L) (hL : Byt L) (hlt : g < B) (hn : L.length = n) : Src w B (some ⟨g, 0, none⟩) n n L := by
  subst hn; exact bytes_block hg hL hlt (Nat.le_refl _)
/-- where the ends lie, if there are any -/
theorem HvsIn.place {w : World} {B : Nat} {sp : Option Addr} {n cap : Nat} {l : List (List Int)} (h : HvsIn w B sp n cap l) : ∃ eb eo, 0 < n → sp = some ⟨eb, eo, none⟩ := by
  by_cases hn : 0 < n
  · obtain ⟨b, off, e, _⟩ := h.cells hn
    exact ⟨b, off, fun _ => e⟩
  · exact ⟨0, 0, fun h => absurd h hn⟩
/-- three rows that were just laid: two bytes, the tag, the slices of both -/
structure Three (w : World) (t : List Int) (w' : World) : Prop where
  r1 : RowIn w' w.heap.size 47 .u8 t
  r2 : RowIn w' (w.heap.size + 1) 5 .u8 [5]
  o : OwnP w' (w.heap.size + 2) (.slice (some ⟨w.heap.size + 1 + 1, 0, none⟩) 2 2) [⟨some ⟨w.heap.size + 1, 0, none⟩, 1, 1, [5]⟩, ⟨some ⟨w.heap.size, 0, none⟩, 2, 2, t⟩]
  b : Below w.heap.size w w'
  s : w'.heap.size = w.heap.size + 3
theorem three_rows (w : World) (t : List Int) : Three w t (((w.alloc (.cells (t.map (Value.int .u8)).toArray 47)).alloc (.cells #[.int .u8 5] 5)).alloc (.cells #[.slice (some ⟨w.heap.size + 1, 0, none⟩) 1 1, .slice (some ⟨w.heap.size, 0, none⟩) 2 2] 50)) := by
  have h1 := RowB.new w 47 t
  generalize w.alloc (.cells (t.map (Value.int .u8)).toArray 47) = w1 at *
  have h2 := RowB.new w1 5 [5]
  have e0 : w1.alloc (.cells ([5].map (Value.int .u8)).toArray 5) = w1.alloc (.cells #[.int .u8 5] 5) := rfl
  rw [e0] at h2
  generalize w1.alloc (.cells #[.int .u8 5] 5) = w2 at *
  have h1s := h1.s; have h2s := h2.s
  have hb3 := below_alloc w2 (.cells #[.slice (some ⟨w.heap.size + 1, 0, none⟩) 1 1, .slice (some ⟨w.heap.size, 0, none⟩) 2 2] 50)
  have ho : OwnP (w2.alloc (.cells #[.slice (some ⟨w.heap.size + 1, 0, none⟩) 1 1, .slice (some ⟨w.heap.size, 0, none⟩) 2 2] 50)) w2.heap.size (.slice (some ⟨w2.heap.size, 0, none⟩) 2 2) [⟨some ⟨w.heap.size + 1, 0, none⟩, 1, 1, [5]⟩, ⟨some ⟨w.heap.size, 0, none⟩, 2, 2, t⟩] :=
    ⟨by simp, .inr ⟨w2.heap.size, 2, _, rfl, Nat.le_refl _, heap_alloc_new w2 _, Nat.le_refl _, by unfold maxLen; simp, rfl, by simp [Part.val]⟩⟩
  have hs3 := alloc_size w2 (.cells #[.slice (some ⟨w.heap.size + 1, 0, none⟩) 1 1, .slice (some ⟨w.heap.size, 0, none⟩) 2 2] 50)
  generalize w2.alloc (.cells #[.slice (some ⟨w.heap.size + 1, 0, none⟩) 1 1, .slice (some ⟨w.heap.size, 0, none⟩) 2 2] 50) = w3 at *
  refine ⟨(h1.r.below h2.b (by omega)).below hb3 (by omega), by have := h2.r; rw [h1s] at this; exact this.below hb3 (by omega), ?_, h1.b.trans ((h2.b.mono (by omega)).trans (hb3.mono (by omega))), by omega⟩
  rw [show w2.heap.size = w.heap.size + 1 + 1 by omega] at ho
  exact ho
def twoP (q : Nat) (leaf : Int) : List Part := [⟨some ⟨q + 1, 0, none⟩, 1, 1, [5]⟩, ⟨some ⟨q, 0, none⟩, 2, 2, [lb1 leaf, lb0 leaf]⟩]
set_option maxRecDepth 100000 in
set_option maxHeartbeats 1000000 in
theorem combine_any (leaf : Int) (sp : Option Addr) (n cap : Nat) (l : List (List Int)) (w : World) (hl : HvsIn w w.heap.size sp n cap l) (hn : n ≤ 1000) (hk : KayIn w) (hk0 : 0 < w.heap.size) :
    Calls Tryd.prog 12 #[.int .i64 leaf, .slice sp n cap] w fun e w' => e = .returned (.agg (hvA (comB leaf l))) ∧ Below w.heap.size w w' := by
  have HK := Lib.hid hk; have HLV := Lib.hid hl
  obtain ⟨eb, eo, hpl⟩ := hl.place
  have HPL := Lib.hid hpl
  clear hk hl hpl
  have HN := Lib.hid (heap_alloc_new w (.cells (Array.replicate 16 (Value.int .u8 0)) 23))
  have HB := Lib.hid (below_alloc w (.cells (Array.replicate 16 (Value.int .u8 0)) 23))
  have HS := Lib.hid (alloc_size w (.cells (Array.replicate 16 (Value.int .u8 0)) 23))
  go_enter Tryd.func12, Tryd.ntmps12
  go_wp2_with fail
  generalize hw0 : World.alloc w _ = w0
  have HZ0 : Hid (w0.heap[w.heap.size]? = some (.cells (Array.replicate 16 (Value.int .u8 0)) 23 (0, 0))) := by rw [← hw0]; exact HN.out
  have HB0 : Hid (Below w.heap.size w w0) := by rw [← hw0]; exact HB.out
  have HS0 : Hid (w0.heap.size = w.heap.size + 1) := by rw [← hw0]; exact HS.out
  clear hw0 HN HB HS
  generalize hb : w.heap.size = b at *
  have HBZ := Lib.hid hb; clear hb
  refine (leafBytes_any leaf w0).mono ?_
  rintro e w1 ⟨rfl, hb1⟩
  have HB1 := Lib.hid hb1; clear hb1
  have hz0 : b + 1 ≤ w0.heap.size := Nat.le_of_eq HS0.out.symm
  have hz1 : b + 1 ≤ w1.heap.size := by have h1 := HB1.out.size; omega
  have HN := Lib.hid (three_rows w1 [lb1 leaf, lb0 leaf])
  go_wp2_with fail
  generalize hw4 : World.alloc (World.alloc (World.alloc w1 _) _) _ = w4
  have H4 : Hid (Three w1 [lb1 leaf, lb0 leaf] w4) := by rw [← hw4]; exact HN.out
  clear hw4 HN
  generalize hq : w1.heap.size = q at *
  have HQ := Lib.hid hq; clear hq
  have HBE : Hid (Below b w w4) := by have h := H4.out.b; exact HB0.out.trans ((HB1.out.mono (by omega)).trans (h.mono (by have := HQ.out; omega)))
  have hbq : b < q := by omega
  have HZ4 : Hid (w4.heap[b]? = some (.cells (Array.replicate 16 (Value.int .u8 0)) 23 (0, 0))) := by
    have h := H4.out.b; exact (h.block b (by have := HQ.out; omega)).trans ((HB1.out.block b (by omega)).trans HZ0.out)
  have HR1 : Hid (RowIn w4 q 47 .u8 [lb1 leaf, lb0 leaf]) := by rw [← HQ.out]; exact H4.out.r1
  have HR2 : Hid (RowIn w4 (q + 1) 5 .u8 [5]) := by rw [← HQ.out]; exact H4.out.r2
  have HO : Hid (OwnP w4 (q + 2) (.slice (some ⟨q + 1 + 1, 0, none⟩) 2 2) (twoP q leaf)) := by rw [← HQ.out]; exact H4.out.o
  have hz4 : q + 2 ≤ w4.heap.size := by have := H4.out.s; have := HQ.out; omega
  clear HB1 HB0 HZ0 HS0 hz0 hz1 H4 HQ
  have HLW : Hid (HvsIn w4 b sp n cap l) := HLV.out.below HBE.out (Nat.le_refl _)
  go_loopw [6, 15] (fun v i wr => ∃ k : Nat, k ≤ n ∧ i = .int .i64 k ∧ Hid (OwnP wr (q + 2) v (twoP q leaf ++ (List.range k).map (endP eb eo l))) ∧ Hid (Below (q + 2) w4 wr)) (fun _ i _ => n - (intOf i).toNat)
  case atStart => exact ⟨0, Nat.zero_le _, rfl, HO.out, Below.refl _ _⟩
  case round =>
    clear HO
    rename_i v _
    obtain ⟨k, hkn, rfl, HOW, HBR⟩ := hrel
    have hbr := HBR.out.size
    have hszq : q + 2 ≤ wr.heap.size := by omega
    clear hbr
    by_cases hlt : k < n
    · obtain rfl := HPL.out (by omega)
      have hd : decide ((k : Int) < (n : Int)) = true := by simp; omega
      have p1 : (0 : Int) ≤ (k : Int) := by omega
      have p2 : (k : Int) < (n : Int) := by omega
      have HSN := Lib.hid (range_snocP (endP eb eo l) k)
      have HLN : Hid ((twoP q leaf ++ (List.range k).map (endP eb eo l)).length ≤ 1000000000) := by
        show _ ≤ _; simp only [twoP, List.length_append, List.length_map, List.length_range, List.length_cons, List.length_nil]; omega
      go_wp2_with (at_builtin; refine wpList_append_pt rfl (.tmp 18) (.tmp 23) rfl (q + 2) _ _ rfl HOW.out (endP eb eo l k) rfl HLN.out hszq ?_; intro v' w' HO' HB' HG')
      go_roundw
      case rel => exact ⟨k + 1, by omega, by go_num, by rw [HSN.out, ← List.append_assoc]; exact HO', HBR.out.trans HB'.out⟩
      case measure => simp [intOf]; omega
    · obtain rfl : k = n := by omega
      have hd : decide ((k : Int) < (k : Int)) = false := by simp
      obtain ⟨sp', cap', rfl⟩ := own_shapeG HOW.out
      have HLK : Hid ((twoP q leaf ++ (List.range k).map (endP eb eo l)).length = k + 2) := by
        show _ = _; simp only [twoP, List.length_append, List.length_map, List.length_range, List.length_cons, List.length_nil]; omega
      have HKK : Hid (KayIn wr) := HK.out.below (HBE.out.trans (HBR.out.mono (by omega))) hk0
      have HCT : Hid (cat (twoP q leaf ++ (List.range k).map (endP eb eo l)) = [5] ++ [lb1 leaf, lb0 leaf] ++ l.flatten) := by
        show _ = _
        have h := endP_cat eb eo l
        rw [HLV.out.len] at h
        rw [← h]
        simp [cat, twoP]
      have HPS : Hid (PartsIn wr wr.heap.size sp' (k + 2) (twoP q leaf ++ (List.range k).map (endP eb eo l))) := by
        have ho := HOW.out
        rw [HLK.out] at ho
        refine ho.parts HLK.out ?_
        intro y hy
        rcases List.mem_append.1 hy with hy | hy
        · simp only [twoP, List.mem_cons, List.not_mem_nil, or_false] at hy
          rcases hy with rfl | rfl
          · exact src_row (HR2.out.below HBR.out (by omega)) (fun z hz => by rw [List.mem_singleton.1 hz]; omega) (by omega) rfl
          · exact src_row (HR1.out.below HBR.out (by omega)) (two_byt _ _) (by omega) rfl
        · obtain ⟨i, hi, rfl⟩ := List.mem_map.1 hy
          have hi2 : i < k := List.mem_range.1 hi
          obtain rfl := HPL.out (by omega)
          exact (endP_src (HLW.out.below HBR.out (by omega)) hi2).more (by omega)
      have HBD : Hid (([5] ++ [lb1 leaf, lb0 leaf] ++ l.flatten).length ≤ 1099511627776) := by
        show _ ≤ _; simp only [List.length_append, flatten_le l HLV.out.ok, HLV.out.len, List.length_cons, List.length_nil]; omega
      have HCH := Lib.hid (Half_any sp' (k + 2) cap' _ wr HPS.out HKK.out (by omega) (by rw [HCT.out]; exact HBD.out) (by omega))
      rw [HCT.out, HLK.out] at *
      have HCH2 : Hid (Calls Tryd.prog 23 #[.slice sp' (k + 2) cap'] wr fun e w' => e = .returned (.agg (hvA (comB leaf l))) ∧ Below wr.heap.size wr w') := HCH.out
      clear HCH HPS HCT HOW HBD
      have HZR : Hid (wr.heap[b]? = some (.cells (Array.replicate 16 (Value.int .u8 0)) 23 (0, 0))) := (HBR.out.block b (by omega)).trans HZ4.out
      have HBW : Hid (Below b w wr) := HBE.out.trans (HBR.out.mono (by omega))
      go_wp2_with fail
      refine HCH2.out.mono ?_
      rintro e w6 ⟨rfl, hb6⟩
      have HZ6 : Hid (w6.heap[b]? = some (.cells (Array.replicate 16 (Value.int .u8 0)) 23 (0, 0))) := (hb6.block b (by omega)).trans HZR.out
      have HB6 : Hid (Below b w w6) := HBW.out.trans (hb6.mono (by omega))
      clear hb6
      go_wp2_with (refine wpList_store_row rfl 23 _ _ rfl b _ rfl rfl 23 _ HZ6.out (info_h (comB_H16 _ _)) (size_h (comB_H16 _ _)) (one_h _) ?_)
      exact bodyPost_ret (results_cell_row (P := Tryd.prog) rfl _ _ b 23 _ (0, 0) _ rfl (setRow_heap _ _ _ _ _ _ HZ6.out) Tryd.underlying23 rfl (info_h (comB_H16 _ _))) rfl ⟨rfl, by rw [HBZ.out]; exact below_setRow HB6.out (Nat.le_refl _) _⟩
end Go.Proofs.YtkeieacmboidoaaDoor
