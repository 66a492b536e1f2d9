/-
  One-time signatures: the walk of the reference's Combine (condition: at most 1000 ends).
-/
import Derived.Test.YtkeieacmboidoaaDoorOneN
namespace Go.Proofs.YtkeieacmboidoaaDoor
open Go.RowKit Go.Proofs.YtkeieacmboidoaaDoor.One

/-- bytes that were copied into a row of their own -/
def CopyIn (w : World) (q : Part) : Prop := ∃ g cur, q.sp = some ⟨g, 0, none⟩ ∧ w.heap[g]? = some (.cells cur 5 (0, 0)) ∧ q.b.length = q.n ∧ q.n ≤ q.cap ∧ Byt q.b ∧ cur.toList.take q.n = q.b.map (Value.int .u8)
theorem CopyIn.src {w : World} {q : Part} (h : CopyIn w q) : Src w w.heap.size q.sp q.n q.cap q.b := by
  obtain ⟨g, cur, e, hg, hl, hc, hb, ht⟩ := h
  refine ⟨hl, hb, fun hn => ⟨g, 0, e, (Array.getElem?_eq_some_iff.1 hg).1, hc, fun j hj => ?_⟩⟩
  rw [Nat.zero_add, cell_of_row w g j cur _ _ hg]
  have h1 := getD_map q.b (Value.int .u8) j 0 (by omega)
  rw [← ht, List.getElem?_take, if_pos hj] at h1
  simpa using h1
theorem CopyIn.below {w w' : World} {q : Part} (h : CopyIn w q) (hb : Below w.heap.size w w') : CopyIn w' q := by
  obtain ⟨g, cur, e, hg, h⟩ := h
  exact ⟨g, cur, e, (hb.block g (Array.getElem?_eq_some_iff.1 hg).1).trans hg, h⟩
theorem CopyIn.kept {w w' : World} {q : Part} {base : Nat} {v : Value} {ps : List Part} {o : Obj} (h : CopyIn w q) (hp : OwnP w base v ps) (hg : (w.alloc o).grownBy w' v.ownBlock) : CopyIn w' q := by
  obtain ⟨g, cur, e, hc, h⟩ := h
  have hlt := (Array.getElem?_eq_some_iff.1 hc).1
  refine ⟨g, cur, e, (hg.block g (by rw [World.size_alloc]; omega) (fun ek => ?_)).trans ((heap_alloc_old w o hlt).trans hc), h⟩
  obtain ⟨_, ⟨rfl, _⟩ | ⟨g2, cap, cur2, rfl, _, hg2, _⟩⟩ := hp
  · simp [Value.ownBlock] at ek
  · have e2 : g = g2 := by simpa [Value.ownBlock] using ek
    subst e2
    rw [hc] at hg2
    injection hg2 with e3
    simp at e3
theorem CopyIn.own {w : World} {base : Nat} {v : Value} {l : List Int} (h : w.ownsRow base 5 1 v l.length (l.map (Value.int .u8))) (hb : Byt l) (hn : 0 < l.length) : ∃ sp cap, v = .slice sp l.length cap ∧ CopyIn w ⟨sp, l.length, cap, l⟩ := by
  obtain ⟨_, ⟨_, h0⟩ | ⟨g, cap, cur, rfl, _, hg, hle, _, hsz, htk⟩⟩ := h
  · omega
  · exact ⟨_, cap, rfl, g, cur, rfl, hg, rfl, hle, hb, by rw [Nat.mul_one] at htk; exact htk⟩
/-- two rows that were just laid: the head, the slice of it -/
structure Two3 (w : World) (t : List Int) (w' : World) : Prop where
  r1 : RowIn w' w.heap.size 5 .u8 t
  o : OwnP w' (w.heap.size + 1) (.slice (some ⟨w.heap.size + 1, 0, none⟩) 1 1) [⟨some ⟨w.heap.size, 0, none⟩, 3, 3, t⟩]
  b : Below w.heap.size w w'
  s : w'.heap.size = w.heap.size + 2
theorem two_rows (w : World) (t : List Int) : Two3 w t ((w.alloc (.cells (t.map (Value.int .u8)).toArray 5)).alloc (.cells #[.slice (some ⟨w.heap.size, 0, none⟩) 3 3] 50)) := by
  have h1 := RowB.new w 5 t
  generalize w.alloc (.cells (t.map (Value.int .u8)).toArray 5) = w1 at *
  have h1s := h1.s
  have hb3 := below_alloc w1 (.cells #[.slice (some ⟨w.heap.size, 0, none⟩) 3 3] 50)
  have ho : OwnP (w1.alloc (.cells #[.slice (some ⟨w.heap.size, 0, none⟩) 3 3] 50)) w1.heap.size (.slice (some ⟨w1.heap.size, 0, none⟩) 1 1) [⟨some ⟨w.heap.size, 0, none⟩, 3, 3, t⟩] :=
    ⟨by simp, .inr ⟨w1.heap.size, 1, _, rfl, Nat.le_refl _, heap_alloc_new w1 _, Nat.le_refl _, by unfold maxLen; simp, rfl, by simp [Part.val]⟩⟩
  have hs3 := alloc_size w1 (.cells #[.slice (some ⟨w.heap.size, 0, none⟩) 3 3] 50)
  generalize w1.alloc (.cells #[.slice (some ⟨w.heap.size, 0, none⟩) 3 3] 50) = w3 at *
  refine ⟨h1.r.below hb3 (by omega), ?_, h1.b.trans (hb3.mono (by omega)), by omega⟩
  rw [show w1.heap.size = w.heap.size + 1 by omega] at ho
  exact ho
theorem rcat (t : List Int) (q : Nat) (cs : List Part) (l : List (List Int)) (h : cs.map Part.b = l) : cat ([⟨some ⟨q, 0, none⟩, 3, 3, t⟩] ++ cs) = t ++ l.flatten := by
  unfold cat; rw [List.map_append, List.flatten_append, h]; simp
def headP (q : Nat) (leaf : Int) : List Part := [⟨some ⟨q, 0, none⟩, 3, 3, [5, leaf / 256 % 256, leaf % 256]⟩]
set_option maxRecDepth 100000 in
set_option maxHeartbeats 1000000 in
theorem rcombine_any (leaf : Int) (sp : Option Addr) (n cap : Nat) (l : List (List Int)) (w : World) (hl : HvsIn w w.heap.size sp n cap l) (hn : n ≤ 1000) :
    Calls Tryd.prog 13 #[.int .i64 leaf, .slice sp n cap] w fun e w' => e = .returned (.agg (hvA (comB leaf l))) ∧ Below w.heap.size w w' := by
  have HLV := Lib.hid hl
  obtain ⟨eb, eo, hpl⟩ := hl.place
  have HPL := Lib.hid hpl
  clear hl hpl
  have HN := Lib.hid (heap_alloc_new w (.cells (Array.replicate 16 (Value.int .u8 0)) 23))
  have HB := Lib.hid (below_alloc w (.cells (Array.replicate 16 (Value.int .u8 0)) 23))
  have HS := Lib.hid (alloc_size w (.cells (Array.replicate 16 (Value.int .u8 0)) 23))
  have HTR := Lib.hid (two_rows (w.alloc (.cells (Array.replicate 16 (Value.int .u8 0)) 23)) [5, leaf / 256 % 256, leaf % 256])
  have HRB := Lib.hid (fun w : World => (show (Instr.buildSlice 50 0 #[]).run Tryd.prog w = .ok (.slice (some ⟨w.heap.size, 0, none⟩) 0 0) (w.alloc (.cells #[] 5)) by kernel_rfl))
  go_enter Tryd.func13, Tryd.ntmps13
  go_wp2_with fail
  generalize hw4 : World.alloc (World.alloc (World.alloc w _) _) _ = w4
  have H4 : Hid (Two3 (w.alloc (.cells (Array.replicate 16 (Value.int .u8 0)) 23)) [5, leaf / 256 % 256, leaf % 256] w4) := by
    rw [← hw4]; have h := HTR.out; rw [World.size_alloc] at h; exact h
  clear hw4 HTR
  generalize hw0 : World.alloc w _ = w0 at *
  generalize hb : w.heap.size = b at *
  have HBZ := Lib.hid hb; clear hb
  have hsz0 : w0.heap.size = b + 1 := HS.out
  have HBE : Hid (Below b w w4) := by have h := H4.out.b; exact HB.out.trans (h.mono (by omega))
  have HZ4 : Hid (w4.heap[b]? = some (.cells (Array.replicate 16 (Value.int .u8 0)) 23 (0, 0))) := by
    have h := H4.out.b; exact (h.block b (by omega)).trans HN.out
  have HR1 : Hid (RowIn w4 (b + 1) 5 .u8 [5, leaf / 256 % 256, leaf % 256]) := by rw [← hsz0]; exact H4.out.r1
  have HO : Hid (OwnP w4 (b + 2) (.slice (some ⟨b + 1 + 1, 0, none⟩) 1 1) (headP (b + 1) leaf)) := by have h := H4.out.o; rw [hsz0] at h; exact h
  have hz4 : b + 2 ≤ w4.heap.size := by have := H4.out.s; omega
  clear HB HN HS hw0 H4 hsz0
  clear w0
  have HLW : Hid (HvsIn w4 b sp n cap l) := HLV.out.below HBE.out (Nat.le_refl _)
  go_loopw [5, 6] (fun v i wr => ∃ (k : Nat) (cs : List Part), k ≤ n ∧ i = .int .i64 k ∧ Hid (cs.map Part.b = l.take k) ∧ Hid (OwnP wr (b + 2) v (headP (b + 1) leaf ++ cs)) ∧ Hid (∀ q ∈ cs, CopyIn wr q) ∧ Hid (Below (b + 2) w4 wr)) (fun _ i _ => n - (intOf i).toNat)
  case atStart => exact ⟨0, [], Nat.zero_le _, rfl, rfl, HO.out, by intro q hq; simp at hq, Below.refl _ _⟩
  case round =>
    clear HO
    rename_i v _
    obtain ⟨k, cs, hkn, rfl, HCS, HOW, HCP, HBR⟩ := hrel
    have hbr := HBR.out.size
    have hszq : b + 2 ≤ wr.heap.size := by omega
    clear hbr
    have HCL : Hid (cs.length = k) := by
      show _ = _; have h := congrArg List.length HCS.out; have h2 := HLV.out.len
      rw [List.length_map, List.length_take] at h; omega
    by_cases hlt : k < n
    · obtain rfl := HPL.out (by omega)
      have hd : decide ((k : Int) < (n : Int)) = true := by simp; omega
      have p1 : (0 : Int) ≤ (k : Int) := by omega
      have p2 : (k : Int) < (n : Int) := by omega
      have HES : Hid (Src wr (b + 2) (some ⟨eb, eo + k * 16, none⟩) 16 16 (l.getD k [])) := endP_src (HLW.out.below HBR.out (by omega)) hlt
      have H16 := Lib.hid (HLV.out.at16 hlt)
      have HTK : Hid (l.take (k + 1) = l.take k ++ [l.getD k []]) := by
        show _ = _; rw [List.take_succ_eq_append_getElem (by have := HLV.out.len; omega), List.getD_eq_getElem?_getD, List.getElem?_eq_getElem (by have := HLV.out.len; omega)]; rfl
      generalize l.getD k [] = y at *
      have HYL := Lib.hid H16.out.1
      have HLN : Hid ((headP (b + 1) leaf ++ cs).length ≤ 1000000000) := by
        show _ ≤ _; have := HCL.out; simp only [headP, List.length_append, List.length_cons, List.length_nil]; omega
      go_wp2_with (first
        | (refine wpList_build0 rfl 50 5 rfl HRB.out ?_; intro v1 w1 hv1 hw1; have hb1 : Below wr.heap.size wr w1 := (by rw [hw1.out]; exact below_alloc _ _); have HO1 : Hid (w1.ownsRow wr.heap.size 5 1 v1 0 []) := (by rw [hv1.out, hw1.out]; exact World.ownsRow_made wr #[] 0 (Nat.le_refl _) (by unfold maxLen; omega) rfl); have hs1 := hb1.size; have HS1 := Lib.hid (HES.out.below hb1 (by omega)); have HB1 := Lib.hid hb1; clear hv1 hw1 hb1)
        | (at_builtin; refine wpList_append_src rfl (.tmp 21) (.tmp 25) 50 5 rfl Tryd.underlying50 Tryd.info5a wr.heap.size _ [] rfl HO1.out (some ⟨eb, eo + k * 16, none⟩) 16 (b + 2) y (by rw [HYL.out]; rfl) (by rw [HYL.out]; exact HS1.out) (fun h => by cases h) (by rw [HYL.out]; simp) hs1 ?_; intro v2 w2 hown2 hg2 hx2; clear hx2; have hb2 := HB1.out.grown hg2 hs1 (own_baseC HO1.out); have hown3 : w2.ownsRow wr.heap.size 5 1 v2 y.length (y.map (Value.int .u8)) := hown2.out; obtain ⟨sp2, cap2, rfl, hcp2⟩ := CopyIn.own hown3 H16.out.2 (by rw [HYL.out]; decide); have HO2 : Hid (OwnP w2 (b + 2) _ (headP (b + 1) leaf ++ cs)) := own_belowG HOW.out hb2; have hs2 := hb2.size; have hsz2 : b + 2 ≤ w2.heap.size := (by omega); have HCP2 := Lib.hid hcp2; have HB2 := Lib.hid hb2; clear hown2 hown3 hcp2 hg2 hb2 hs2 hs1)
        | (at_builtin; refine wpList_append_pt rfl (.tmp 20) (.tmp 27) rfl (b + 2) _ _ rfl HO2.out ⟨sp2, y.length, cap2, y⟩ rfl HLN.out hsz2 ?_; intro v' w' HO' HB' HG'))
      go_roundw
      case rel =>
        refine ⟨k + 1, cs ++ [⟨sp2, y.length, cap2, y⟩], by omega, by go_num, ?_, by rw [← List.append_assoc]; exact HO', ?_, HBR.out.trans ((HB2.out.mono (by omega)).trans HB'.out)⟩
        · show _ = _; rw [HTK.out, List.map_append, HCS.out]; rfl
        · intro q hq
          rcases List.mem_append.1 hq with hq | hq
          · exact ((HCP.out q hq).below HB2.out).kept HO2.out HG'.out
          · rw [List.mem_singleton.1 hq]; exact HCP2.out.kept HO2.out HG'.out
      case measure => simp [intOf]; omega
    · obtain rfl : k = n := by omega
      have hd : decide ((k : Int) < (k : Int)) = false := by simp
      obtain ⟨sp', cap', rfl⟩ := own_shapeG HOW.out
      have HLK : Hid ((headP (b + 1) leaf ++ cs).length = k + 1) := by
        show _ = _; have := HCL.out; simp only [headP, List.length_append, List.length_cons, List.length_nil]; omega
      have HCT : Hid (cat (headP (b + 1) leaf ++ cs) = [5, leaf / 256 % 256, leaf % 256] ++ l.flatten) := by
        refine rcat _ _ _ _ ?_
        rw [HCS.out, List.take_of_length_le (by have := HLV.out.len; omega)]
      have HPS : Hid (PartsIn wr wr.heap.size sp' (k + 1) (headP (b + 1) leaf ++ cs)) := by
        have ho := HOW.out
        rw [HLK.out] at ho
        refine ho.parts HLK.out ?_
        intro y hy
        rcases List.mem_append.1 hy with hy | hy
        · rw [headP, List.mem_singleton] at hy
          subst hy
          exact src_row (HR1.out.below HBR.out (by omega)) (fun z hz => by
            simp only [List.mem_cons, List.not_mem_nil, or_false] at hz
            rcases hz with rfl | rfl | rfl <;> omega) (by omega) rfl
        · exact (HCP.out y hy).src
      have HNL : Hid (∀ q ∈ headP (b + 1) leaf ++ cs, q.sp = none → q.cap = 0) := by
        intro q hq hn
        rcases List.mem_append.1 hq with hq | hq
        · rw [headP, List.mem_singleton] at hq; subst hq; cases hn
        · obtain ⟨g, cur, e, _⟩ := HCP.out q hq; rw [e] at hn; cases hn
      have HBD : Hid (([5, leaf / 256 % 256, leaf % 256] ++ l.flatten).length ≤ 1099511627776) := by
        show _ ≤ _; simp only [List.length_append, flatten_le l HLV.out.ok, HLV.out.len, List.length_cons, List.length_nil]; omega
      have HCH := Lib.hid (rhalf_any sp' (k + 1) cap' _ wr HPS.out HNL.out (by rw [HCT.out]; exact HBD.out) (by omega))
      rw [HCT.out, HLK.out] at *
      have HCH2 : Hid (Calls Tryd.prog 24 #[.slice sp' (k + 1) cap'] wr fun e w' => e = .returned (.agg (hvA (comB leaf l))) ∧ Below wr.heap.size wr w') := HCH.out
      clear HCH HPS HCT HOW HBD HNL
      have HZR : Hid (wr.heap[b]? = some (.cells (Array.replicate 16 (Value.int .u8 0)) 23 (0, 0))) := (HBR.out.block b (by omega)).trans HZ4.out
      have HBW : Hid (Below b w wr) := HBE.out.trans (HBR.out.mono (by omega))
      go_wp2_with fail
      refine HCH2.out.mono ?_
      rintro e w6 ⟨rfl, hb6⟩
      have HZ6 : Hid (w6.heap[b]? = some (.cells (Array.replicate 16 (Value.int .u8 0)) 23 (0, 0))) := (hb6.block b (by omega)).trans HZR.out
      have HB6 : Hid (Below b w w6) := HBW.out.trans (hb6.mono (by omega))
      clear hb6
      go_wp2_with (refine wpList_store_row rfl 23 _ _ rfl b _ rfl rfl 23 _ HZ6.out (info_h (comB_H16 _ _)) (size_h (comB_H16 _ _)) (one_h _) ?_)
      exact bodyPost_ret (results_cell_row (P := Tryd.prog) rfl _ _ b 23 _ (0, 0) _ rfl (setRow_heap _ _ _ _ _ _ HZ6.out) Tryd.underlying23 rfl (info_h (comB_H16 _ _))) rfl ⟨rfl, by rw [HBZ.out]; exact below_setRow HB6.out (Nat.le_refl _) _⟩
end Go.Proofs.YtkeieacmboidoaaDoor
