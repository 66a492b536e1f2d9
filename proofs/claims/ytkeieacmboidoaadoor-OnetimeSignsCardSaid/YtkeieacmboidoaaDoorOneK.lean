/-
  One-time signatures: the walks of the reference's Secret, and of Climb, the program's and the reference's (condition: the table of constants reads as it is laid).
-/
import Derived.Test.YtkeieacmboidoaaDoorOneJ
namespace Go.Proofs.YtkeieacmboidoaaDoor
open Go.RowKit Go.Proofs.YtkeieacmboidoaaDoor.One

/-- the reference's Half of parts that were laid into a row of their own -/
theorem rhalfN (ps : List Part) (w : World) (hs : ∀ q ∈ ps, Src w w.heap.size q.sp q.n q.cap q.b) (hnil : ∀ q ∈ ps, q.sp = none → q.cap = 0) (hbd : (cat ps).length ≤ 1099511627776) (hnp : ps.length ≤ 1099511627776) :
    Calls Tryd.prog 24 #[.slice (some ⟨w.heap.size, 0, none⟩) ps.length ps.length] (w.alloc (.cells (ps.map Part.val).toArray 50)) fun e w' => e = .returned (.agg (hvA (hfB (cat ps)))) ∧ Below w.heap.size w w' := by
  have hba := below_alloc w (.cells (ps.map Part.val).toArray 50)
  have hsa := alloc_size w (.cells (ps.map Part.val).toArray 50)
  have hga := heap_alloc_new w (.cells (ps.map Part.val).toArray 50)
  generalize World.alloc w _ = w6 at *
  have hp : PartsIn w6 w6.heap.size (some ⟨w.heap.size, 0, none⟩) ps.length ps := by
    refine parts_block (ps := ps) hga (by omega) ?_
    intro q hq
    exact ((hs q hq).below hba (Nat.le_refl _)).more (by omega)
  refine (rhalf_any _ ps.length ps.length ps w6 hp hnil hbd hnp).mono fun e w' ⟨he, hb⟩ => ⟨he, hba.trans (hb.mono hba.size)⟩
/-- .. of a tag, an array and some bytes -/
theorem rthree (tag : Int) (x cs : List Int) (n : Nat) (w : World) (bh : Nat) (h2 : RowIn w bh 23 .u8 x) (l2 : bh < w.heap.size) (hx : H16 x) (ht : 0 ≤ tag ∧ tag < 256) (hc : Byt cs) (hn : cs.length = n) (hn2 : n ≤ 100 := by decide) :
    Calls Tryd.prog 24 #[.slice (some ⟨w.heap.size + 1 + 1, 0, none⟩) 3 3] (((w.alloc (.cells #[.int .u8 tag] 5)).alloc (.cells (cs.map (Value.int .u8)).toArray 5)).alloc (.cells #[.slice (some ⟨w.heap.size, 0, none⟩) 1 1, .slice (some ⟨bh, 0, none⟩) 16 16, .slice (some ⟨w.heap.size + 1, 0, none⟩) n n] 50)) fun e w' => e = .returned (.agg (hvA (hfB ([tag] ++ x ++ cs)))) ∧ Below w.heap.size w w' := by
  subst hn
  have r1 := RowB.new w 5 [tag]
  have e0 : w.alloc (.cells ([tag].map (Value.int .u8)).toArray 5) = w.alloc (.cells #[.int .u8 tag] 5) := rfl
  rw [e0] at r1
  generalize w.alloc (.cells #[.int .u8 tag] 5) = w1 at *
  have r2 := RowB.new w1 5 cs
  generalize w1.alloc (.cells (cs.map (Value.int .u8)).toArray 5) = w2 at *
  have hs1 := r1.s; have hs2 := r2.s
  have hb := r1.b.trans (r2.b.mono (by omega))
  have h := rhalfN [⟨some ⟨w.heap.size, 0, none⟩, 1, 1, [tag]⟩, ⟨some ⟨bh, 0, none⟩, 16, 16, x⟩, ⟨some ⟨w.heap.size + 1, 0, none⟩, cs.length, cs.length, cs⟩] w2 (by
    intro q hq
    simp only [List.mem_cons, List.not_mem_nil, or_false] at hq
    rcases hq with rfl | rfl | rfl
    · exact bytes_block (L := [tag]) (r1.r.below r2.b (by omega)) (fun y hy => by rw [List.mem_singleton.1 hy]; exact ht) (by omega) (by simp)
    · have := bytes_block (B := w2.heap.size) (cap := 16) (h2.below hb l2) hx.2 (by omega) (by rw [hx.1]; exact Nat.le_refl _); rw [hx.1] at this; exact this
    · have := r2.r; rw [hs1] at this; exact bytes_block this hc (by omega) (Nat.le_refl _)) (by
    intro q hq
    simp only [List.mem_cons, List.not_mem_nil, or_false] at hq
    rcases hq with rfl | rfl | rfl <;> (intro h; cases h)) (by simp only [cat, List.map_cons, List.map_nil, List.flatten_cons, List.flatten_nil, List.length_append, List.length_cons, List.length_nil]; rw [hx.1]; omega) (show 3 ≤ 1099511627776 by omega)
  have e : cat [⟨some ⟨w.heap.size, 0, none⟩, 1, 1, [tag]⟩, ⟨some ⟨bh, 0, none⟩, 16, 16, x⟩, ⟨some ⟨w.heap.size + 1, 0, none⟩, cs.length, cs.length, cs⟩] = [tag] ++ x ++ cs := by simp [cat]
  rw [e] at h
  rw [show w2.heap.size = w.heap.size + 1 + 1 by omega] at h
  exact h.mono fun e w' ⟨he, hb'⟩ => ⟨he, hb.trans (hb'.mono (by omega))⟩
set_option maxRecDepth 100000 in
set_option maxHeartbeats 1000000 in
theorem rsecret_any (x : List Int) (leaf c : Int) (w : World) (hs : H16 x) :
    Calls Tryd.prog 9 #[.agg (hvA x), .int .i64 leaf, .int .i64 c] w fun e w' => e = .returned (.agg (hvA (secB x leaf c))) ∧ Below w.heap.size w w' := by
  have HS := Lib.hid hs; clear hs
  have HT := Lib.hid (Two.new w x)
  have HCH := Lib.hid (rthree 3 x [leaf / 256 % 256, leaf % 256, c % 256] 3 _ w.heap.size HT.out.x (by rw [HT.out.s]; omega) HS.out (by decide) (fun z hz => by
    simp only [List.mem_cons, List.not_mem_nil, or_false] at hz
    rcases hz with rfl | rfl | rfl <;> omega) rfl)
  have hlist : [3] ++ x ++ [leaf / 256 % 256, leaf % 256, c % 256] = [3] ++ x ++ [lb1 leaf, lb0 leaf] ++ [c % 256] := by simp [lb1, lb0]
  rw [hlist, show hfB ([3] ++ x ++ [lb1 leaf, lb0 leaf] ++ [c % 256]) = secB x leaf c from rfl] at HCH
  clear hlist
  have hz0 : ((w.alloc (.cells (hvA x) 23)).alloc (.cells (Array.replicate 16 (Value.int .u8 0)) 23)).heap.size = w.heap.size + 1 + 1 := by simp
  rw [hz0] at HCH
  clear hz0
  go_enter Tryd.func9, Tryd.ntmps9
  go_wp2_with fail
  refine HCH.out.mono ?_
  rintro e w1 ⟨rfl, hb1⟩
  have HZ1 : Hid (w1.heap[w.heap.size + 1]? = some (.cells (Array.replicate 16 (Value.int .u8 0)) 23 (0, 0))) := (hb1.block _ (by omega)).trans HT.out.z
  have HBW : Hid (Below w.heap.size w w1) := HT.out.b.trans (hb1.mono (by omega))
  clear hb1 HCH HT
  generalize hb : w.heap.size = b at *
  have HBZ := Lib.hid hb; clear hb
  go_wp2_with (refine wpList_store_row rfl 23 _ _ rfl (b + 1) _ rfl rfl 23 _ HZ1.out (info_h (secB_H16 _ _ _)) (size_h (secB_H16 _ _ _)) (one_h _) ?_)
  exact bodyPost_ret (results_cell_row (P := Tryd.prog) rfl _ _ (b + 1) 23 _ (0, 0) _ rfl (setRow_heap _ _ _ _ _ _ HZ1.out) Tryd.underlying23 rfl (info_h (secB_H16 _ _ _))) rfl ⟨rfl, by rw [HBZ.out]; exact below_setRow HBW.out (by omega) _⟩

/-- n steps of a chain -/
def clN (x : List Int) (leaf c fr : Int) : Nat → List Int
  | 0 => x
  | n + 1 => stepB (clN x leaf c fr n) leaf c (fr + n)
def climbB (x : List Int) (leaf c fr to : Int) : List Int := if fr < 0 ∨ to > 3 then x else clN x leaf c fr (to - fr).toNat
theorem clN_H16 {x : List Int} (h : H16 x) (leaf c fr : Int) : ∀ n, H16 (clN x leaf c fr n)
  | 0 => h
  | _ + 1 => stepB_H16 _ _ _ _
theorem climbB_H16 {x : List Int} (h : H16 x) (leaf c fr to : Int) : H16 (climbB x leaf c fr to) := by
  unfold climbB; split
  · exact h
  · exact clN_H16 h _ _ _ _
set_option maxRecDepth 100000 in
set_option maxHeartbeats 4000000 in
theorem climb_any (x : List Int) (leaf c fr to : Int) (w : World) (hs : H16 x) (hk : KayIn w) (hk0 : 0 < w.heap.size) :
    Calls Tryd.prog 10 #[.agg (hvA x), .int .i64 leaf, .int .i64 c, .int .i64 fr, .int .i64 to] w fun e w' => e = .returned (.agg (hvA (climbB x leaf c fr to))) ∧ Below w.heap.size w w' := by
  have HK := Lib.hid hk; clear hk
  have HS := Lib.hid hs; clear hs
  have HT := Lib.hid (Two.new w x)
  by_cases hbad : fr < 0 ∨ to > 3
  · have HE : Hid (climbB x leaf c fr to = x) := by show _ = _; unfold climbB; rw [if_pos hbad]
    rcases (by omega : fr < 0 ∨ (¬ fr < 0 ∧ to > 3)) with h1 | ⟨h1, h2⟩
    all_goals
      first
        | (have q1 : decide (fr < 0) = true := by simp; omega)
        | (have q1 : decide (fr < 0) = false := by simp; omega)
      try (have q2 : decide (to > 3) = true := by simp; omega)
      clear hbad
      go_enter Tryd.func10, Tryd.ntmps10
      go_wp2_with (first
        | (generalize hw0 : World.alloc (World.alloc w _) _ = w0; have HX0 : Hid (w0.heap[w.heap.size]? = some (.cells (hvA x) 23 (0, 0))) := (by rw [← hw0]; exact HT.out.x); have HZ0 : Hid (w0.heap[w.heap.size + 1]? = some (.cells (Array.replicate 16 (Value.int .u8 0)) 23 (0, 0))) := (by rw [← hw0]; exact HT.out.z); have HB0 : Hid (Below w.heap.size w w0) := (by rw [← hw0]; exact HT.out.b); clear hw0 HT; refine wpList_load_row rfl 23 _ rfl w.heap.size rfl 23 _ (0, 0) _ HX0.out Tryd.underlying23 rfl (info_h HS.out) ?_)
        | (refine wpList_store_row rfl 23 _ _ rfl (w.heap.size + 1) _ rfl rfl 23 _ HZ0.out (info_h HS.out) (size_h HS.out) (one_h _) ?_))
      exact bodyPost_ret (results_cell_row (P := Tryd.prog) rfl _ _ (w.heap.size + 1) 23 _ (0, 0) _ rfl (setRow_heap _ _ _ _ _ _ HZ0.out) Tryd.underlying23 rfl (info_h HS.out)) rfl ⟨by rw [HE.out], below_setRow HB0.out (by omega) _⟩
  · have hf0 : 0 ≤ fr := by omega
    have ht3 : to ≤ 3 := by omega
    have q1 : decide (fr < 0) = false := by simp; omega
    have q2 : decide (to > 3) = false := by simp; omega
    have HE : Hid (climbB x leaf c fr to = clN x leaf c fr (to - fr).toNat) := by show _ = _; unfold climbB; rw [if_neg hbad]
    clear hbad
    go_enter Tryd.func10, Tryd.ntmps10
    go_wp2_with fail
    generalize hw0 : World.alloc (World.alloc w _) _ = w0
    have HT0 : Hid (Two w x w0) := by rw [← hw0]; exact HT.out
    clear hw0 HT
    generalize hb : w.heap.size = b at *
    have HBZ := Lib.hid hb; clear hb
    have HX0 : Hid (w0.heap[b]? = some (.cells (hvA x) 23 (0, 0))) := by have h := HT0.out.x; rw [HBZ.out] at h; exact h
    have HZ0 : Hid (w0.heap[b + 1]? = some (.cells (Array.replicate 16 (Value.int .u8 0)) 23 (0, 0))) := by have h := HT0.out.z; rw [HBZ.out] at h; exact h
    have HB0 : Hid (Below b w w0) := by have h := HT0.out.b; rw [HBZ.out] at h; exact h
    clear HT0
    go_loopw [11] (fun i wr => ∃ k : Nat, i = .int .i64 (fr + (k : Int)) ∧ (fr + (k : Int) ≤ to ∨ k = 0) ∧ Hid (RowIn wr b 23 .u8 (clN x leaf c fr k)) ∧ Hid (wr.heap[b + 1]? = some (.cells (Array.replicate 16 (Value.int .u8 0)) 23 (0, 0))) ∧ Hid (Below b w wr)) (fun i _ => (to - intOf i).toNat)
    case atStart => exact ⟨0, by simp, Or.inr rfl, HX0.out, HZ0.out, HB0.out⟩
    case round =>
      clear HX0 HZ0 HB0
      obtain ⟨k, rfl, hkt, HXR, HZR, HBR⟩ := hrel
      have HCX : Hid (wr.heap[b]? = some (.cells (hvA (clN x leaf c fr k)) 23 (0, 0))) := HXR.out
      have hbw : b + 1 < wr.heap.size := (Array.getElem?_eq_some_iff.1 HZR.out).1
      have HHC := Lib.hid (clN_H16 HS.out leaf c fr k)
      by_cases hlt : fr + (k : Int) < to
      · have q3 : decide (fr + (k : Int) < to) = true := by simpa using hlt
        have p0 : 0 ≤ fr + (k : Int) := by omega
        have p1 : fr + (k : Int) ≤ 3 := by omega
        have hkn : k ≤ 3 := by omega
        have HE2 : Hid (clN x leaf c fr (k + 1) = stepB (clN x leaf c fr k) leaf c (fr + (k : Int))) := rfl
        generalize clN x leaf c fr k = y at *
        have HKR := Lib.hid (HK.out.below HBR.out (HBZ.out ▸ hk0))
        have hkr : 0 < wr.heap.size := by have := HBZ.out; omega
        go_wp2_with (refine wpList_load_row rfl 23 _ rfl b rfl 23 _ (0, 0) _ HCX.out Tryd.underlying23 rfl (info_h HHC.out) ?_)
        refine (step_any y leaf c (fr + (k : Int)) wr HHC.out HKR.out hkr).mono ?_
        rintro e w6 ⟨rfl, hb6⟩
        have HB6 := Lib.hid hb6; clear hb6
        have HXS : Hid (w6.heap[b]? = some (.cells (hvA y) 23 (0, 0))) := (HB6.out.block b (by omega)).trans HCX.out
        have HZS : Hid (w6.heap[b + 1]? = some (.cells (Array.replicate 16 (Value.int .u8 0)) 23 (0, 0))) := (HB6.out.block (b + 1) hbw).trans HZR.out
        have HSZ : Hid ((hvA y).size = (hvA (stepB y leaf c (fr + (k : Int)))).size) := by show _ = _; simp [hvA, HHC.out.1, (stepB_H16 y leaf c (fr + (k : Int))).1]
        go_wp2_with (refine wpList_store_row rfl 23 _ _ rfl b _ rfl rfl 23 _ HXS.out (info_h (stepB_H16 _ _ _ _)) HSZ.out (one_h _) ?_)
        have HN1 : Hid (RowIn (w6.setRow b (hvA (stepB y leaf c (fr + (k : Int))))) b 23 .u8 (stepB y leaf c (fr + (k : Int)))) := setRow_heap _ _ _ _ _ _ HXS.out
        have HN2 : Hid ((w6.setRow b (hvA (stepB y leaf c (fr + (k : Int))))).heap[b + 1]? = some (.cells (Array.replicate 16 (Value.int .u8 0)) 23 (0, 0))) := (setRow_other _ _ _ _ (by omega)).trans HZS.out
        have HN3 : Hid (Below b w (w6.setRow b (hvA (stepB y leaf c (fr + (k : Int)))))) := below_setRow (HBR.out.trans (HB6.out.mono (by omega))) (Nat.le_refl _) _
        generalize World.setRow w6 b _ = w7 at *
        have q4 : fr + (k : Int) + 1 = fr + ((k + 1 : Nat) : Int) := by omega
        have HQ4 := Lib.hid q4; clear q4
        go_roundw
        case rel => exact ⟨k + 1, by rw [HQ4.out], Or.inl (by omega), by rw [HE2.out]; exact HN1, HN2, HN3⟩
        case measure => simp [intOf]; omega
      · have q3 : decide (fr + (k : Int) < to) = false := by simp; omega
        have HKE : Hid (climbB x leaf c fr to = clN x leaf c fr k) := by
          show _ = _; rw [HE.out]; congr 1
          rcases hkt with h | h <;> omega
        generalize clN x leaf c fr k = y at *
        go_wp2_with (first
          | (refine wpList_load_row rfl 23 _ rfl b rfl 23 _ (0, 0) _ HCX.out Tryd.underlying23 rfl (info_h HHC.out) ?_)
          | (refine wpList_store_row rfl 23 _ _ rfl (b + 1) _ rfl rfl 23 _ HZR.out (info_h HHC.out) (size_h HHC.out) (one_h _) ?_))
        exact bodyPost_ret (results_cell_row (P := Tryd.prog) rfl _ _ (b + 1) 23 _ (0, 0) _ rfl (setRow_heap _ _ _ _ _ _ HZR.out) Tryd.underlying23 rfl (info_h HHC.out)) rfl ⟨by rw [HKE.out], by rw [HBZ.out]; exact below_setRow HBR.out (by omega) _⟩
set_option maxRecDepth 100000 in
set_option maxHeartbeats 4000000 in
theorem rclimb_any (x : List Int) (leaf c fr to : Int) (w : World) (hs : H16 x) :
    Calls Tryd.prog 11 #[.agg (hvA x), .int .i64 leaf, .int .i64 c, .int .i64 fr, .int .i64 to] w fun e w' => e = .returned (.agg (hvA (climbB x leaf c fr to))) ∧ Below w.heap.size w w' := by
  skip
  have HS := Lib.hid hs; clear hs
  have HT := Lib.hid (Two.new w x)
  by_cases hbad : fr < 0 ∨ to > 3
  · have HE : Hid (climbB x leaf c fr to = x) := by show _ = _; unfold climbB; rw [if_pos hbad]
    rcases (by omega : fr < 0 ∨ (¬ fr < 0 ∧ to > 3)) with h1 | ⟨h1, h2⟩
    all_goals
      first
        | (have q1 : decide (fr < 0) = true := by simp; omega)
        | (have q1 : decide (fr < 0) = false := by simp; omega)
      try (have q2 : decide (to > 3) = true := by simp; omega)
      clear hbad
      go_enter Tryd.func11, Tryd.ntmps11
      go_wp2_with (first
        | (generalize hw0 : World.alloc (World.alloc w _) _ = w0; have HX0 : Hid (w0.heap[w.heap.size]? = some (.cells (hvA x) 23 (0, 0))) := (by rw [← hw0]; exact HT.out.x); have HZ0 : Hid (w0.heap[w.heap.size + 1]? = some (.cells (Array.replicate 16 (Value.int .u8 0)) 23 (0, 0))) := (by rw [← hw0]; exact HT.out.z); have HB0 : Hid (Below w.heap.size w w0) := (by rw [← hw0]; exact HT.out.b); clear hw0 HT; refine wpList_load_row rfl 23 _ rfl w.heap.size rfl 23 _ (0, 0) _ HX0.out Tryd.underlying23 rfl (info_h HS.out) ?_)
        | (refine wpList_store_row rfl 23 _ _ rfl (w.heap.size + 1) _ rfl rfl 23 _ HZ0.out (info_h HS.out) (size_h HS.out) (one_h _) ?_))
      exact bodyPost_ret (results_cell_row (P := Tryd.prog) rfl _ _ (w.heap.size + 1) 23 _ (0, 0) _ rfl (setRow_heap _ _ _ _ _ _ HZ0.out) Tryd.underlying23 rfl (info_h HS.out)) rfl ⟨by rw [HE.out], below_setRow HB0.out (by omega) _⟩
  · have hf0 : 0 ≤ fr := by omega
    have ht3 : to ≤ 3 := by omega
    have q1 : decide (fr < 0) = false := by simp; omega
    have q2 : decide (to > 3) = false := by simp; omega
    have HE : Hid (climbB x leaf c fr to = clN x leaf c fr (to - fr).toNat) := by show _ = _; unfold climbB; rw [if_neg hbad]
    clear hbad
    go_enter Tryd.func11, Tryd.ntmps11
    go_wp2_with fail
    generalize hw0 : World.alloc (World.alloc w _) _ = w0
    have HT0 : Hid (Two w x w0) := by rw [← hw0]; exact HT.out
    clear hw0 HT
    generalize hb : w.heap.size = b at *
    have HBZ := Lib.hid hb; clear hb
    have HX0 : Hid (w0.heap[b]? = some (.cells (hvA x) 23 (0, 0))) := by have h := HT0.out.x; rw [HBZ.out] at h; exact h
    have HZ0 : Hid (w0.heap[b + 1]? = some (.cells (Array.replicate 16 (Value.int .u8 0)) 23 (0, 0))) := by have h := HT0.out.z; rw [HBZ.out] at h; exact h
    have HB0 : Hid (Below b w w0) := by have h := HT0.out.b; rw [HBZ.out] at h; exact h
    clear HT0
    go_loopw [11] (fun i wr => ∃ k : Nat, i = .int .i64 (fr + (k : Int)) ∧ (fr + (k : Int) ≤ to ∨ k = 0) ∧ Hid (RowIn wr b 23 .u8 (clN x leaf c fr k)) ∧ Hid (wr.heap[b + 1]? = some (.cells (Array.replicate 16 (Value.int .u8 0)) 23 (0, 0))) ∧ Hid (Below b w wr)) (fun i _ => (to - intOf i).toNat)
    case atStart => exact ⟨0, by simp, Or.inr rfl, HX0.out, HZ0.out, HB0.out⟩
    case round =>
      clear HX0 HZ0 HB0
      obtain ⟨k, rfl, hkt, HXR, HZR, HBR⟩ := hrel
      have HCX : Hid (wr.heap[b]? = some (.cells (hvA (clN x leaf c fr k)) 23 (0, 0))) := HXR.out
      have hbw : b + 1 < wr.heap.size := (Array.getElem?_eq_some_iff.1 HZR.out).1
      have HHC := Lib.hid (clN_H16 HS.out leaf c fr k)
      by_cases hlt : fr + (k : Int) < to
      · have q3 : decide (fr + (k : Int) < to) = true := by simpa using hlt
        have p0 : 0 ≤ fr + (k : Int) := by omega
        have p1 : fr + (k : Int) ≤ 3 := by omega
        have hkn : k ≤ 3 := by omega
        have HE2 : Hid (clN x leaf c fr (k + 1) = stepB (clN x leaf c fr k) leaf c (fr + (k : Int))) := rfl
        generalize clN x leaf c fr k = y at *
        have HCH := Lib.hid (rthree 4 y [leaf / 256 % 256, leaf % 256, c % 256, fr + (k : Int)] 4 wr b HXR.out (by omega) HHC.out (by decide) (fun z hz => by
          simp only [List.mem_cons, List.not_mem_nil, or_false] at hz
          rcases hz with rfl | rfl | rfl | rfl <;> omega) rfl)
        have hmod : (fr + (k : Int)) % 256 = fr + (k : Int) := by omega
        have hlist : [4] ++ y ++ [leaf / 256 % 256, leaf % 256, c % 256, fr + (k : Int)] = [4] ++ y ++ [lb1 leaf, lb0 leaf] ++ [c % 256, (fr + (k : Int)) % 256] := by rw [hmod]; simp [lb1, lb0]
        clear hmod
        rw [hlist, show hfB ([4] ++ y ++ [lb1 leaf, lb0 leaf] ++ [c % 256, (fr + (k : Int)) % 256]) = stepB y leaf c (fr + (k : Int)) from rfl] at HCH
        clear hlist
        go_wp2_with fail
        refine HCH.out.mono ?_
        rintro e w6 ⟨rfl, hb6⟩
        have HB6 := Lib.hid hb6; clear hb6 HCH
        have HXS : Hid (w6.heap[b]? = some (.cells (hvA y) 23 (0, 0))) := (HB6.out.block b (by omega)).trans HCX.out
        have HZS : Hid (w6.heap[b + 1]? = some (.cells (Array.replicate 16 (Value.int .u8 0)) 23 (0, 0))) := (HB6.out.block (b + 1) hbw).trans HZR.out
        have HSZ : Hid ((hvA y).size = (hvA (stepB y leaf c (fr + (k : Int)))).size) := by show _ = _; simp [hvA, HHC.out.1, (stepB_H16 y leaf c (fr + (k : Int))).1]
        go_wp2_with (refine wpList_store_row rfl 23 _ _ rfl b _ rfl rfl 23 _ HXS.out (info_h (stepB_H16 _ _ _ _)) HSZ.out (one_h _) ?_)
        have HN1 : Hid (RowIn (w6.setRow b (hvA (stepB y leaf c (fr + (k : Int))))) b 23 .u8 (stepB y leaf c (fr + (k : Int)))) := setRow_heap _ _ _ _ _ _ HXS.out
        have HN2 : Hid ((w6.setRow b (hvA (stepB y leaf c (fr + (k : Int))))).heap[b + 1]? = some (.cells (Array.replicate 16 (Value.int .u8 0)) 23 (0, 0))) := (setRow_other _ _ _ _ (by omega)).trans HZS.out
        have HN3 : Hid (Below b w (w6.setRow b (hvA (stepB y leaf c (fr + (k : Int)))))) := below_setRow (HBR.out.trans (HB6.out.mono (by omega))) (Nat.le_refl _) _
        generalize World.setRow w6 b _ = w7 at *
        have q4 : fr + (k : Int) + 1 = fr + ((k + 1 : Nat) : Int) := by omega
        have HQ4 := Lib.hid q4; clear q4
        go_roundw
        case rel => exact ⟨k + 1, by rw [HQ4.out], Or.inl (by omega), by rw [HE2.out]; exact HN1, HN2, HN3⟩
        case measure => simp [intOf]; omega
      · have q3 : decide (fr + (k : Int) < to) = false := by simp; omega
        have HKE : Hid (climbB x leaf c fr to = clN x leaf c fr k) := by
          show _ = _; rw [HE.out]; congr 1
          rcases hkt with h | h <;> omega
        generalize clN x leaf c fr k = y at *
        go_wp2_with (first
          | (refine wpList_load_row rfl 23 _ rfl b rfl 23 _ (0, 0) _ HCX.out Tryd.underlying23 rfl (info_h HHC.out) ?_)
          | (refine wpList_store_row rfl 23 _ _ rfl (b + 1) _ rfl rfl 23 _ HZR.out (info_h HHC.out) (size_h HHC.out) (one_h _) ?_))
        exact bodyPost_ret (results_cell_row (P := Tryd.prog) rfl _ _ (b + 1) 23 _ (0, 0) _ rfl (setRow_heap _ _ _ _ _ _ HZR.out) Tryd.underlying23 rfl (info_h HHC.out)) rfl ⟨by rw [HKE.out], by rw [HBZ.out]; exact below_setRow HBR.out (by omega) _⟩
end Go.Proofs.YtkeieacmboidoaaDoor
