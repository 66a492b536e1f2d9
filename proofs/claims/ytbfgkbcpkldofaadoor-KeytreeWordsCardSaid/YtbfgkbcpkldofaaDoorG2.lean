/-
  Keys of many one-time keys: the walk of the reference's Read (condition: the words read as strings).
-/
import Derived.Test.YtbfgkbcpkldofaaDoorWrdA
import Derived.Test.YtbfgkbcpkldofaaDoorGy
import Derived.Test.YtbfgkbcpkldofaaDoorGz
import Derived.Lib.SliceRun
import Derived.Lib.AppendZerosOnto
import Derived.Lib.Walk
namespace Go.Proofs.YtbfgkbcpkldofaaDoor
open Go.RowKit Go.Proofs.YtbfgkbcpkldofaaDoor.One

theorem pby_H16 (l : List UInt8) : H16 (pby l 16) := by
  refine ⟨pby_length l 16, ?_⟩
  unfold pby
  split
  · rename_i h
    unfold pok at h
    have h2 : hok l 16 = true := by
      cases hh : hok l 16 with
      | true => rfl
      | false => rw [hh, Bool.and_false] at h; cases h
    exact hbs_byt0 (hok_at0 h2)
  · intro y hy
    rw [List.mem_replicate] at hy
    omega
def hpB (s : ByteArray) : List Int := pby s.data.toList 16
def hpK (s : ByteArray) : Bool := pok s.data.toList 16
def hdB (l : List ByteArray) : ByteArray := l.getD 0 ⟨#[]⟩
/-- can the words be read -/
def rdK (l : List ByteArray) : Bool := decide (69 ≤ l.length ∧ l.length ≤ 75) && (pnk (hdB l).data.toList && (decide (pnv (hdB l).data.toList ≤ 65535) && (l.drop 1).all hpK))
def rdA (l : List ByteArray) : Int := if rdK l = true then pnv (hdB l).data.toList else 0
def rdC (l : List ByteArray) : List (List Int) := if rdK l = true then ((l.drop 1).take 68).map hpB else []
def rdP (l : List ByteArray) : List (List Int) := if rdK l = true then ((l.drop 1).drop 68).map hpB else []
/-- what Read answers -/
def RdP (l : List ByteArray) (w : World) (e : Ending) (w' : World) : Prop :=
  ∃ sp1 c1 sp2 c2, e = .returned (.tuple #[.agg (siA (rdA l) (.slice sp1 (rdC l).length c1) (.slice sp2 (rdP l).length c2)), .bool (rdK l)]) ∧ OwnHv w' w.heap.size (.slice sp1 (rdC l).length c1) (rdC l) ∧ OwnHv w' w.heap.size (.slice sp2 (rdP l).length c2) (rdP l) ∧ Below w.heap.size w w'
theorem RdP.no {l : List ByteArray} {w : World} {e : Ending} {w' : World} (hk : rdK l = false) (he : e = .returned (.tuple #[.agg (siA 0 nilS nilS), .bool false])) (hb : Below w.heap.size w w') : RdP l w e w' := by
  refine ⟨none, 0, none, 0, ?_, ?_, ?_, hb⟩
  · rw [he]; unfold rdA rdC rdP; rw [hk]; rfl
  · unfold rdC; rw [hk]; exact OwnHv.nil _ _
  · unfold rdP; rw [hk]; exact OwnHv.nil _ _
theorem RdP.yes {l : List ByteArray} {w : World} {e : Ending} {w' : World} (hk : rdK l = true) {sp1 sp2 : Option Addr} {n1 n2 c1 c2 : Nat} (he : e = .returned (.tuple #[.agg (siA (pnv (hdB l).data.toList) (.slice sp1 n1 c1) (.slice sp2 n2 c2)), .bool true]))
    (h1 : n1 = (((l.drop 1).take 68).map hpB).length) (h2 : n2 = (((l.drop 1).drop 68).map hpB).length) (hc : OwnHv w' w.heap.size (.slice sp1 n1 c1) (((l.drop 1).take 68).map hpB)) (hp : OwnHv w' w.heap.size (.slice sp2 n2 c2) (((l.drop 1).drop 68).map hpB)) (hb : Below w.heap.size w w') : RdP l w e w' := by
  subst h1 h2
  refine ⟨sp1, c1, sp2, c2, ?_, ?_, ?_, hb⟩
  · rw [he]; unfold rdA rdC rdP; rw [if_pos hk, if_pos hk, if_pos hk, hk]
  · unfold rdC; rw [if_pos hk]; exact hc
  · unfold rdP; rw [if_pos hk]; exact hp
theorem rdK_len {l : List ByteArray} (h : l.length < 69 ∨ 75 < l.length) : rdK l = false := by unfold rdK; rw [decide_eq_false (by omega)]; rfl
theorem rdK_pnk {l : List ByteArray} (h : pnk (hdB l).data.toList = false) : rdK l = false := by unfold rdK; rw [h]; simp
theorem rdK_big {l : List ByteArray} (h : 65535 < pnv (hdB l).data.toList) : rdK l = false := by unfold rdK; rw [decide_eq_false (p := pnv (hdB l).data.toList ≤ 65535) (by omega)]; simp
theorem rdK_bad {l : List ByteArray} {j : Nat} (hj : j < (l.drop 1).length) (h : hpK ((l.drop 1)[j]) = false) : rdK l = false := by
  have : (l.drop 1).all hpK = false := by rw [List.all_eq_false]; exact ⟨_, List.getElem_mem hj, by rw [h]; simp⟩
  unfold rdK; rw [this]; simp
theorem rdK_yes {l : List ByteArray} (h1 : 69 ≤ l.length ∧ l.length ≤ 75) (h2 : pnk (hdB l).data.toList = true) (h3 : pnv (hdB l).data.toList ≤ 65535) (h4 : (l.drop 1).all hpK = true) : rdK l = true := by unfold rdK; rw [decide_eq_true h1, h2, decide_eq_true h3, h4]; rfl
theorem tkS {W : List ByteArray} {j : Nat} (hj : j < W.length) : W.take (j + 1) = W.take j ++ [W[j]] := by rw [List.take_add_one, List.getElem?_eq_getElem hj]; rfl
theorem tkC1 {W : List ByteArray} {j : Nat} (hj : j < W.length) (h : j < 68) : ((W.take (j + 1)).take 68).map hpB = ((W.take j).take 68).map hpB ++ [hpB W[j]] := by
  rw [List.take_of_length_le (by rw [List.length_take]; omega), List.take_of_length_le (l := W.take j) (by rw [List.length_take]; omega), tkS hj, List.map_append]; rfl
theorem tkP1 {W : List ByteArray} {j : Nat} (h : j ≤ 68) : ((W.take j).drop 68).map hpB = [] := by rw [List.drop_of_length_le (by rw [List.length_take]; omega)]; rfl
theorem tkC2 {W : List ByteArray} {j : Nat} (h : 68 ≤ j) : ((W.take (j + 1)).take 68).map hpB = ((W.take j).take 68).map hpB := by rw [List.take_take, List.take_take, Nat.min_eq_left (by omega), Nat.min_eq_left h]
theorem tkP2 {W : List ByteArray} {j : Nat} (hj : j < W.length) (h : 68 ≤ j) : ((W.take (j + 1)).drop 68).map hpB = ((W.take j).drop 68).map hpB ++ [hpB W[j]] := by
  rw [tkS hj, List.drop_append_of_le_length (by rw [List.length_take]; omega), List.map_append]; rfl
theorem tkA {W : List ByteArray} {j : Nat} (hj : j < W.length) (h : (W.take j).all hpK = true) (hk : hpK W[j] = true) : (W.take (j + 1)).all hpK = true := by rw [tkS hj, List.all_append, h]; simp [hk]
/-- what stands in memory within the loop of Read -/
structure RdS (w : World) (gs bp : Nat) (a : Int) (cv pv : Value) (cl pl : List (List Int)) (wr : World) : Prop where
  z : wr.heap[w.heap.size]? = some (.cells (siA 0 nilS nilS) 37 (0, 0))
  g : wr.heap[gs]? = some (.cells (siA a cv pv) 37 (0, 0))
  c : OwnHv wr (w.heap.size + 1) cv cl
  p : OwnHv wr bp pv pl
  cb : (pl = [] ∧ pv = nilS) ∨ (cv.ownBlock = none ∨ ∃ g, cv.ownBlock = some g ∧ g < bp)
  b : Below w.heap.size w wr
  i : w.heap.size < gs ∧ gs < wr.heap.size
  m : w.heap.size + 1 ≤ bp ∧ bp ≤ wr.heap.size
theorem RdS.below {w : World} {gs bp : Nat} {a : Int} {cv pv : Value} {cl pl : List (List Int)} {w1 w2 : World} (r : RdS w gs bp a cv pv cl pl w1) (hb : Below w1.heap.size w1 w2) : RdS w gs bp a cv pv cl pl w2 := by
  have h1 := r.i; have h2 := hb.size; have h3 := r.m
  exact ⟨(hb.block _ (by omega)).trans r.z, (hb.block _ (by omega)).trans r.g, r.c.below hb, r.p.below hb, r.cb, r.b.trans (hb.mono (by omega)), by omega, by omega⟩
theorem RdS.addC {w : World} {gs bp : Nat} {a : Int} {cv cv' : Value} {cl : List (List Int)} {y : List Int} {w1 w2 : World} (r : RdS w gs bp a cv nilS cl [] w1) (hb : Below (w.heap.size + 1) w1 w2) (hg : w1.grownBy w2 cv.ownBlock) (ho : OwnHv w2 (w.heap.size + 1) cv' (cl ++ [y])) :
    (w2.heap[gs]? = some (.cells (siA a cv nilS) 37 (0, 0))) ∧ RdS w gs bp a cv' nilS (cl ++ [y]) [] (w2.setCell ⟨gs, 1, none⟩ cv') := by
  have hp := r.c.apart r.g ne_si
  have h1 := r.i; have h2 := hb.size; have h3 := r.m
  have hg2 : w2.heap[gs]? = some (.cells (siA a cv nilS) 37 (0, 0)) := by
    refine (hg.block _ r.i.2 (fun e => ?_)).trans r.g
    rcases hp with hp | hp
    · rw [hp] at e; cases e
    · exact hp e.symm
  refine ⟨hg2, (heap_setCell_other _ _ _ _ (by show w.heap.size ≠ gs; omega)).trans ((hb.block _ (by omega)).trans r.z), ?_, ho.setCell hg2 ne_si _ _, OwnHv.nil _ _, .inl ⟨rfl, rfl⟩, (r.b.trans (hb.mono (by omega))).setCell (by show w.heap.size ≤ gs; omega) _, ?_, ?_⟩
  · rw [heap_setCell_same _ _ _ _ _ _ hg2]; rfl
  · simp [World.setCell]; omega
  · simp [World.setCell]; omega
theorem RdS.apartP {w : World} {gs bp : Nat} {a : Int} {cv pv : Value} {cl pl : List (List Int)} {w1 : World} (r : RdS w gs bp a cv pv cl pl w1) : ∃ bq, RdS w gs bq a cv pv cl pl w1 ∧ (cv.ownBlock = none ∨ ∃ g, cv.ownBlock = some g ∧ g < bq) := by
  rcases r.cb with ⟨e1, e2⟩ | hc
  · refine ⟨w1.heap.size, ⟨r.z, r.g, r.c, ?_, .inl ⟨e1, e2⟩, r.b, r.i, by have := r.m; omega⟩, ?_⟩
    · rw [e1, e2]; exact OwnHv.nil _ _
    · rcases r.c.blockK with h0 | ⟨g, h0, _, h1⟩
      · exact .inl h0
      · exact .inr ⟨g, h0, h1⟩
  · exact ⟨bp, r, hc⟩
theorem RdS.addP {w : World} {gs bp : Nat} {a : Int} {cv pv pv' : Value} {cl pl : List (List Int)} {y : List Int} {w1 w2 : World} (r : RdS w gs bp a cv pv cl pl w1) (hc : cv.ownBlock = none ∨ ∃ g, cv.ownBlock = some g ∧ g < bp) (hb : Below bp w1 w2) (hg : w1.grownBy w2 pv.ownBlock) (ho : OwnHv w2 bp pv' (pl ++ [y])) :
    (w2.heap[gs]? = some (.cells (siA a cv pv) 37 (0, 0))) ∧ RdS w gs bp a cv pv' cl (pl ++ [y]) (w2.setCell ⟨gs, 2, none⟩ pv') := by
  have hp := r.p.apart r.g ne_si
  have h1 := r.i; have h2 := hb.size; have h3 := r.m
  have hg2 : w2.heap[gs]? = some (.cells (siA a cv pv) 37 (0, 0)) := by
    refine (hg.block _ r.i.2 (fun e => ?_)).trans r.g
    rcases hp with hp | hp
    · rw [hp] at e; cases e
    · exact hp e.symm
  have hcc : OwnHv w2 (w.heap.size + 1) cv cl := by
    refine r.c.keptK hg ?_
    rcases hc with hc | ⟨gc, hc, hlt⟩
    · exact .inl hc
    · rcases r.p.blockK with h0 | ⟨gp, h0, h1, h2⟩
      · rw [hc, h0]; exact .inr (by simp)
      · rw [hc, h0]; exact .inr (by intro e; injection e with e; omega)
  refine ⟨hg2, (heap_setCell_other _ _ _ _ (by show w.heap.size ≠ gs; omega)).trans ((hb.block _ (by omega)).trans r.z), ?_, hcc.setCell hg2 ne_si _ _, ho.setCell hg2 ne_si _ _, .inr hc, (r.b.trans (hb.mono (by omega))).setCell (by show w.heap.size ≤ gs; omega) _, ?_, ?_⟩
  · rw [heap_setCell_same _ _ _ _ _ _ hg2]; rfl
  · simp [World.setCell]; omega
  · simp [World.setCell]; omega
set_option maxRecDepth 100000 in
set_option maxHeartbeats 1000000 in
theorem rread_any (sp : Option Addr) (n cap : Nat) (l : List ByteArray) (w : World) (hl : StrsIn w w.heap.size sp n l) (hcap : n ≤ cap) (hn : n ≤ 1000000) :
    Calls Tryd.prog 15 #[.slice sp n cap] w (RdP l w) := by
  have HL := Lib.hid hl
  have hlen := hl.len
  clear hl
  have HZ := Lib.hid (heap_alloc_new w (.cells (siA 0 nilS nilS) 37))
  have HB := Lib.hid (below_alloc w (.cells (siA 0 nilS nilS) 37))
  have HS := Lib.hid (alloc_size w (.cells (siA 0 nilS nilS) 37))
  have hbi := buildSi0
  go_enter Tryd.func15, Tryd.ntmps15
  go_upto_region 1 with (fail)
  generalize hw0 : World.alloc w _ = w0
  have HZ0 : Hid (w0.heap[w.heap.size]? = some (.cells (siA 0 nilS nilS) 37 (0, 0))) := by rw [← hw0]; exact HZ.out
  have HB0 : Hid (Below w.heap.size w w0) := by rw [← hw0]; exact HB.out
  have hs0 : w.heap.size + 1 ≤ w0.heap.size := by rw [← hw0]; exact Nat.le_of_eq HS.out.symm
  clear hw0 HZ HB HS
  by_cases h1 : n < 69
  · have q1 : decide ((n : Int) < 69) = true := by simp; omega
    go_wp2_with (refine wpList_store_row rfl 37 _ _ rfl w.heap.size (siA 0 nilS nilS) rfl rfl 37 _ HZ0.out (info_si _ _ _) rfl (one_si _ _ _ _ _ _ _) ?_)
    exact bodyPost_ret (results_row_tmpO (P := Tryd.prog) rfl _ _ w.heap.size 37 _ (0, 0) _ rfl (setRow_heap _ _ _ _ _ _ HZ0.out) Tryd.underlying37 rfl (info_si _ _ _)) rfl (RdP.no (rdK_len (by omega)) rfl (below_setRow HB0.out (Nat.le_refl _) _))
  · have q1 : decide ((n : Int) < 69) = false := by simp; omega
    by_cases h2 : 75 < n
    · have q2 : decide ((n : Int) > 75) = true := by simp; omega
      go_wp2_with (refine wpList_store_row rfl 37 _ _ rfl w.heap.size (siA 0 nilS nilS) rfl rfl 37 _ HZ0.out (info_si _ _ _) rfl (one_si _ _ _ _ _ _ _) ?_)
      exact bodyPost_ret (results_row_tmpO (P := Tryd.prog) rfl _ _ w.heap.size 37 _ (0, 0) _ rfl (setRow_heap _ _ _ _ _ _ HZ0.out) Tryd.underlying37 rfl (info_si _ _ _)) rfl (RdP.no (rdK_len (by omega)) rfl (below_setRow HB0.out (Nat.le_refl _) _))
    · have q2 : decide ((n : Int) > 75) = false := by simp; omega
      obtain ⟨wb, wo, rfl, hwb, hcw⟩ := HL.out.cells (by omega)
      have p1 : (0 : Int) < (n : Int) := by omega
      have p2 : (n : Int) ≤ (cap : Int) := by omega
      have HC0 : Hid (w0.cell? ⟨wb, wo, none⟩ = some (.string (hdB l))) := by
        have h := hcw 0 (by omega)
        rw [Nat.add_zero] at h
        refine (HB0.out.cell (p := ⟨wb, wo, none⟩) (by show wb < w.heap.size; omega)).trans (h.trans ?_)
        unfold hdB
        rw [List.getD_eq_getElem?_getD, List.getElem?_eq_getElem (by omega)]; rfl
      have HCW := Lib.hid hcw
      clear hcw
      have c0 := HC0.out
      go_wp2_with fail
      refine (refParseNumber_any (hdB l) w0).mono ?_
      rintro e w' ⟨rfl, rfl⟩
      clear c0
      by_cases hk : pnk (hdB l).data.toList = true
      · by_cases hb : 65535 < pnv (hdB l).data.toList
        · have hkb := rdK_big hb
          have HKB := Lib.hid hkb
          have q4 : decide (pnv (hdB l).data.toList > 65535) = true := by simpa using hb
          rw [hk]
          go_wp2_with (refine wpList_store_row rfl 37 _ _ rfl w.heap.size (siA 0 nilS nilS) rfl rfl 37 _ HZ0.out (info_si _ _ _) rfl (one_si _ _ _ _ _ _ _) ?_)
          exact bodyPost_ret (results_row_tmpO (P := Tryd.prog) rfl _ _ w.heap.size 37 _ (0, 0) _ rfl (setRow_heap _ _ _ _ _ _ HZ0.out) Tryd.underlying37 rfl (info_si _ _ _)) rfl (RdP.no HKB.out rfl (below_setRow HB0.out (Nat.le_refl _) _))
        · have q4 : decide (pnv (hdB l).data.toList > 65535) = false := by simpa using hb
          have HPK := Lib.hid hk
          have HPV : Hid (pnv (hdB l).data.toList ≤ 65535) := by show _ ≤ _; omega
          rw [hk]
          clear hb hk
          generalize ha : pnv (hdB l).data.toList = a at *
          have HAE := Lib.hid ha
          clear ha
          have HZN := Lib.hid (SxBox.new w0 0 nilS nilS)
          have HRN := Lib.hid (SxBox.new w0 a nilS nilS)
          go_wp2_with (refine wpList_store_row rfl 37 _ _ rfl w0.heap.size (siA a nilS nilS) rfl rfl 37 _ HZN.out.s (info_si _ _ _) rfl (one_si _ _ _ _ _ _ _) ?_; rw [setRow_new]; generalize hw1 : World.alloc w0 _ = w1; have HS1 : Hid (SxBox w0 a nilS nilS w1) := (by rw [← hw1]; exact HRN.out); clear hw1 HZN HRN)
          clear q1 q2 q4 hbi
          have hs1 : w0.heap.size + 1 ≤ w1.heap.size := Nat.le_of_eq HS1.out.k.symm
          have HR1 : Hid (RdS w w0.heap.size (w.heap.size + 1) a nilS nilS [] [] w1) := ⟨(HS1.out.b.block _ (by omega)).trans HZ0.out, HS1.out.s, OwnHv.nil _ _, OwnHv.nil _ _, .inl ⟨rfl, rfl⟩, HB0.out.trans (HS1.out.b.mono (by omega)), by omega, by omega⟩
          clear HS1 HZ0 HB0
          generalize w0.heap.size = gs at *
          have hdl : (l.drop 1).length = n - 1 := by rw [List.length_drop, hlen]
          go_loopw [7] (fun i wr => ∃ (j bp : Nat) (cv pv : Value), j ≤ n - 1 ∧ i = .int .i64 ((j : Int) + 1) ∧ ((l.drop 1).take j).all hpK = true ∧ (j ≤ 68 → pv = nilS) ∧ Hid (RdS w gs bp a cv pv ((((l.drop 1).take j).take 68).map hpB) ((((l.drop 1).take j).drop 68).map hpB) wr)) (fun i _ => n - (intOf i).toNat)
          case atStart => exact ⟨0, w.heap.size + 1, nilS, nilS, by omega, by simp, by simp, fun _ => rfl, show RdS w gs (w.heap.size + 1) a nilS nilS _ _ w1 from by simpa using HR1.out⟩
          case round =>
            clear HR1
            obtain ⟨j, bp, cv, pv, hj, rfl, hall, hpv, HR⟩ := hrel
            have hir := HR.out.i; have hmr := HR.out.m
            by_cases hlt : j < n - 1
            · have hd1 : decide ((j : Int) + 1 < (n : Int)) = true := by simp; omega
              have p3 : (0 : Int) ≤ (j : Int) + 1 := by omega
              have p4 : (j : Int) + 1 < (n : Int) := by omega
              have t1 : ((j : Int) + 1).toNat = j + 1 := by omega
              have hjl : j < (l.drop 1).length := by omega
              obtain ⟨s, hse⟩ : ∃ s, (l.drop 1)[j] = s := ⟨_, rfl⟩
              have HCJ : Hid (wr.cell? ⟨wb, wo + (j + 1), none⟩ = some (.string s)) := by
                refine (HR.out.b.cell (p := ⟨wb, wo + (j + 1), none⟩) (by show wb < w.heap.size; omega)).trans ((HCW.out (j + 1) (by omega)).trans ?_)
                rw [← hse, List.getElem_drop]; congr 2; simp [Nat.add_comm]
              have cj := HCJ.out
              go_wp2_with fail
              clear cj hd1
              refine (refParseHalf_any s wr).mono ?_
              rintro e w6 ⟨rfl, hb6⟩
              have HR6 := Lib.hid (HR.out.below hb6)
              have hs6 := hb6.size
              clear hb6
              have HY16 : Hid (H16 (hpB s)) := pby_H16 _
              have HZN := Lib.hid (Zro.new w6)
              have HRB := Lib.hid (RowB.new w6 23 (hpB s))
              have HSE := Lib.hid hse
              by_cases hok : pok s.data.toList 16 = true
              · have hallS := tkA hjl hall (show hpK (l.drop 1)[j] = true by rw [hse]; exact hok)
                rw [hok]
                by_cases hlt68 : j < 68
                · have hd2 : decide ((j : Int) + 1 ≤ 68) = true := by simp; omega
                  clear hok hall hse
                  go_upto_region 13 with (refine wpList_store_row rfl 23 _ _ rfl w6.heap.size (hvA (hpB s)) rfl rfl 23 _ HZN.out.z (info_h HY16.out) (size_h HY16.out) (one_h _) ?_; rw [setRow_new]; generalize hw9 : World.alloc w6 _ = w9; have HRB9 : Hid (RowB w6 23 (hpB s) w9) := (by rw [← hw9]; exact HRB.out); clear hw9 HZN HRB; have HR9 := Lib.hid (HR6.out.below HRB9.out.b); have HX9 : Hid (w9.heap[w6.heap.size]? = some (.cells (hvA (hpB s)) 23 (0, 0))) := HRB9.out.r; have hs9 : w6.heap.size + 1 ≤ w9.heap.size := Nat.le_of_eq HRB9.out.s.symm)
                  obtain rfl : pv = nilS := hpv (by omega)
                  have HTP : Hid ((((l.drop 1).take j).drop 68).map hpB = []) := tkP1 (by omega)
                  rw [HTP.out] at HR9
                  have kf := si_c HR9.out.g
                  have HNE : Hid (j = ((((l.drop 1).take j).take 68).map hpB).length) := by show _ = _; simp [List.length_take, List.length_drop]; omega
                  have hi9 := HR9.out.i; have hm9 := HR9.out.m
                  have hN9 : j ≤ 1000000 := by omega
                  go_wp2_with (first
                    | (refine wpList_load_row rfl 23 _ rfl w6.heap.size rfl 23 _ (0, 0) _ HX9.out Tryd.underlying23 rfl (info_h HY16.out) ?_)
                    | (refine wpList_slice_eqG rfl 35 1 [(0, .tmp 56)] rfl [(0, .agg (hvA (hpB s)))] rfl _ _ (sliceHv _ (hpB s) HY16.out) ?_; generalize hw7 : World.alloc w9 _ = w7; have HB7 : Hid (Below w9.heap.size w9 w7) := (by rw [← hw7]; exact below_alloc _ _); have HQ7 : Hid (w7.rangeAt w9.heap.size 0 ((hpB s).map (Value.int .u8))) := (by rw [← hw7]; intro j v hv; rw [Nat.zero_add]; exact heap_cellO (heap_alloc_new w9 _) hv); have HR7 := Lib.hid (HR9.out.below HB7.out); have hs7 := HB7.out.size; clear hw7 kf)
                    | (at_builtin; refine wpList_append_hv rfl (.tmp 55) (.tmp 57) rfl (w.heap.size + 1) cv _ j HNE.out rfl HR7.out.c w9.heap.size (hpB s) rfl HQ7.out HY16.out hN9 (by omega) ?_; intro sp8 cap8 w8 HO8 HB8 HG8; have HAP := Lib.hid (HR7.out.addC HB8.out HG8.out HO8.out); have kg := si_c HAP.out.1; have fg := frozen_of_row _ _ 1 _ _ HAP.out.1))
                  clear kg fg
                  have HRZ := Lib.hid HAP.out.2
                  clear HAP HO8 HB8 HG8
                  generalize World.setCell w8 _ _ = wz at *
                  go_roundw
                  case rel => exact ⟨j + 1, bp, (.slice sp8 (j + 1) cap8), nilS, by omega, by go_num, hallS, fun _ => rfl, by rw [tkC1 hjl hlt68, tkP1 (show j + 1 ≤ 68 by omega), HSE.out]; exact HRZ.out⟩
                  case measure => simp [intOf]; omega
                · have hd2 : decide ((j : Int) + 1 ≤ 68) = false := by simp; omega
                  clear hok hall hse
                  go_upto_region 13 with (refine wpList_store_row rfl 23 _ _ rfl w6.heap.size (hvA (hpB s)) rfl rfl 23 _ HZN.out.z (info_h HY16.out) (size_h HY16.out) (one_h _) ?_; rw [setRow_new]; generalize hw9 : World.alloc w6 _ = w9; have HRB9 : Hid (RowB w6 23 (hpB s) w9) := (by rw [← hw9]; exact HRB.out); clear hw9 HZN HRB; have HR9 := Lib.hid (HR6.out.below HRB9.out.b); have HX9 : Hid (w9.heap[w6.heap.size]? = some (.cells (hvA (hpB s)) 23 (0, 0))) := HRB9.out.r; have hs9 : w6.heap.size + 1 ≤ w9.heap.size := Nat.le_of_eq HRB9.out.s.symm)
                  obtain ⟨bq, hr9, hcb⟩ := HR9.out.apartP
                  have HCB := Lib.hid hcb
                  have HR9' := Lib.hid hr9
                  clear HR9 hcb hr9
                  have HR9 := HR9'
                  clear HR9'
                  have kf := si_p HR9.out.g
                  have HNE : Hid ((j - 68) = ((((l.drop 1).take j).drop 68).map hpB).length) := by show _ = _; simp [List.length_take, List.length_drop]; omega
                  have hi9 := HR9.out.i; have hm9 := HR9.out.m
                  have hN9 : (j - 68) ≤ 1000000 := by omega
                  go_wp2_with (first
                    | (refine wpList_load_row rfl 23 _ rfl w6.heap.size rfl 23 _ (0, 0) _ HX9.out Tryd.underlying23 rfl (info_h HY16.out) ?_)
                    | (refine wpList_slice_eqG rfl 35 1 [(0, .tmp 62)] rfl [(0, .agg (hvA (hpB s)))] rfl _ _ (sliceHv _ (hpB s) HY16.out) ?_; generalize hw7 : World.alloc w9 _ = w7; have HB7 : Hid (Below w9.heap.size w9 w7) := (by rw [← hw7]; exact below_alloc _ _); have HQ7 : Hid (w7.rangeAt w9.heap.size 0 ((hpB s).map (Value.int .u8))) := (by rw [← hw7]; intro j v hv; rw [Nat.zero_add]; exact heap_cellO (heap_alloc_new w9 _) hv); have HR7 := Lib.hid (HR9.out.below HB7.out); have hs7 := HB7.out.size; clear hw7 kf)
                    | (at_builtin; refine wpList_append_hv rfl (.tmp 61) (.tmp 63) rfl bq pv _ (j - 68) HNE.out rfl HR7.out.p w9.heap.size (hpB s) rfl HQ7.out HY16.out hN9 (by omega) ?_; intro sp8 cap8 w8 HO8 HB8 HG8; have HAP := Lib.hid (HR7.out.addP HCB.out HB8.out HG8.out HO8.out); have kg := si_p HAP.out.1; have fg := frozen_of_row _ _ 2 _ _ HAP.out.1))
                  clear kg fg
                  have HRZ := Lib.hid HAP.out.2
                  clear HAP HO8 HB8 HG8
                  generalize World.setCell w8 _ _ = wz at *
                  go_roundw
                  case rel => exact ⟨j + 1, bq, cv, (.slice sp8 ((j - 68) + 1) cap8), by omega, by go_num, hallS, fun h => absurd h (by omega), by rw [tkC2 (by omega), tkP2 hjl (by omega), HSE.out]; exact HRZ.out⟩
                  case measure => simp [intOf]; omega
              · have hok2 : pok s.data.toList 16 = false := by simpa using hok
                have HKB := Lib.hid (rdK_bad hjl (by rw [hse]; exact hok2))
                rw [hok2]
                clear hok2
                have hbi := buildSi0
                clear hok hall hse hpv
                go_upto_region 12 with (refine wpList_store_row rfl 23 _ _ rfl w6.heap.size (hvA (hpB s)) rfl rfl 23 _ HZN.out.z (info_h HY16.out) (size_h HY16.out) (one_h _) ?_; rw [setRow_new]; generalize hw9 : World.alloc w6 _ = w9; have HRB9 : Hid (RowB w6 23 (hpB s) w9) := (by rw [← hw9]; exact HRB.out); clear hw9 HZN HRB; have HR9 := Lib.hid (HR6.out.below HRB9.out.b); have HX9 : Hid (w9.heap[w6.heap.size]? = some (.cells (hvA (hpB s)) 23 (0, 0))) := HRB9.out.r; have hs9 : w6.heap.size + 1 ≤ w9.heap.size := Nat.le_of_eq HRB9.out.s.symm)
                go_wp2_with (refine wpList_store_row rfl 37 _ _ rfl w.heap.size (siA 0 nilS nilS) rfl rfl 37 _ HR9.out.z (info_si _ _ _) rfl (one_si _ _ _ _ _ _ _) ?_)
                exact bodyPost_ret (results_row_tmpO (P := Tryd.prog) rfl _ _ w.heap.size 37 _ (0, 0) _ rfl (setRow_heap _ _ _ _ _ _ HR9.out.z) Tryd.underlying37 rfl (info_si _ _ _)) rfl (RdP.no HKB.out rfl (below_setRow HR9.out.b (Nat.le_refl _) _))
            · obtain rfl : j = n - 1 := by omega
              have hd1 : decide (((n - 1 : Nat) : Int) + 1 < (n : Int)) = false := by simp; omega
              have HTK : Hid ((l.drop 1).take (n - 1) = l.drop 1) := List.take_of_length_le (by omega)
              rw [HTK.out] at hall HR
              have HKY := Lib.hid (rdK_yes (l := l) (by omega) HPK.out (by rw [HAE.out]; exact HPV.out) hall)
              clear hall hpv
              obtain ⟨sp1, c1, e1⟩ := own_shapeG HR.out.c.1
              obtain ⟨sp2, c2, e2⟩ := own_shapeG HR.out.p.1
              obtain ⟨N1, hN1⟩ : ∃ N, (((l.drop 1).take 68).map hpB).length = N := ⟨_, rfl⟩
              obtain ⟨N2, hN2⟩ : ∃ N, (((l.drop 1).drop 68).map hpB).length = N := ⟨_, rfl⟩
              rw [hN1] at e1
              rw [hN2] at e2
              have HN1 := Lib.hid hN1; have HN2 := Lib.hid hN2
              clear hN1 hN2
              subst e1 e2
              go_wp2_with (first
                | (refine wpList_load_row rfl 37 _ rfl gs rfl 37 _ (0, 0) _ HR.out.g Tryd.underlying37 rfl (info_si _ _ _) ?_)
                | (refine wpList_store_row rfl 37 _ _ rfl w.heap.size _ rfl rfl 37 _ HR.out.z (info_si _ _ _) rfl (one_si _ _ _ _ _ _ _) ?_))
              refine bodyPost_ret (results_row_tmpO (P := Tryd.prog) rfl _ _ w.heap.size 37 _ (0, 0) _ rfl (setRow_heap _ _ _ _ _ _ HR.out.z) Tryd.underlying37 rfl (info_si _ _ _)) rfl (RdP.yes HKY.out (n1 := N1) (n2 := N2) (sp1 := sp1) (sp2 := sp2) (c1 := c1) (c2 := c2) (by rw [HAE.out]; rfl) HN1.out.symm HN2.out.symm ?_ ?_ (below_setRow HR.out.b (Nat.le_refl _) _))
              · exact OwnHv.setRow (base := w.heap.size) (HR.out.c.base (Nat.le_succ _)) HR.out.z ne_si _
              · exact OwnHv.setRow (base := w.heap.size) (HR.out.p.base (by have := HR.out.m; omega)) HR.out.z ne_si _
      · have hk2 : pnk (hdB l).data.toList = false := by simpa using hk
        have HKB := Lib.hid (rdK_pnk hk2)
        rw [hk2]
        clear hk hk2
        go_wp2_with (refine wpList_store_row rfl 37 _ _ rfl w.heap.size (siA 0 nilS nilS) rfl rfl 37 _ HZ0.out (info_si _ _ _) rfl (one_si _ _ _ _ _ _ _) ?_)
        exact bodyPost_ret (results_row_tmpO (P := Tryd.prog) rfl _ _ w.heap.size 37 _ (0, 0) _ rfl (setRow_heap _ _ _ _ _ _ HZ0.out) Tryd.underlying37 rfl (info_si _ _ _)) rfl (RdP.no HKB.out rfl (below_setRow HB0.out (Nat.le_refl _) _))
end Go.Proofs.YtbfgkbcpkldofaaDoor

namespace Go.Proofs.YtbfgkbcpkldofaaDoor
open Go.RowKit Go.Proofs.YtbfgkbcpkldofaaDoor.One

set_option maxRecDepth 100000 in
set_option maxHeartbeats 1000000 in
theorem read_any (sp : Option Addr) (n cap : Nat) (l : List ByteArray) (w : World) (hl : StrsIn w w.heap.size sp n l) (hcap : n ≤ cap) (hn : n ≤ 1000000) (hmx : (hdB l).size ≤ 9223372036854775807) :
    Calls Tryd.prog 14 #[.slice sp n cap] w (RdP l w) := by
  have HL := Lib.hid hl
  have hlen := hl.len
  clear hl
  have HZ := Lib.hid (heap_alloc_new w (.cells (siA 0 nilS nilS) 37))
  have HB := Lib.hid (below_alloc w (.cells (siA 0 nilS nilS) 37))
  have HS := Lib.hid (alloc_size w (.cells (siA 0 nilS nilS) 37))
  have hbi := buildSi0
  go_enter Tryd.func14, Tryd.ntmps14
  go_upto_region 1 with (fail)
  generalize hw0 : World.alloc w _ = w0
  have HZ0 : Hid (w0.heap[w.heap.size]? = some (.cells (siA 0 nilS nilS) 37 (0, 0))) := by rw [← hw0]; exact HZ.out
  have HB0 : Hid (Below w.heap.size w w0) := by rw [← hw0]; exact HB.out
  have hs0 : w.heap.size + 1 ≤ w0.heap.size := by rw [← hw0]; exact Nat.le_of_eq HS.out.symm
  clear hw0 HZ HB HS
  by_cases h1 : n < 69
  · have q1 : decide ((n : Int) < 69) = true := by simp; omega
    go_wp2_with (refine wpList_store_row rfl 37 _ _ rfl w.heap.size (siA 0 nilS nilS) rfl rfl 37 _ HZ0.out (info_si _ _ _) rfl (one_si _ _ _ _ _ _ _) ?_)
    exact bodyPost_ret (results_row_tmpO (P := Tryd.prog) rfl _ _ w.heap.size 37 _ (0, 0) _ rfl (setRow_heap _ _ _ _ _ _ HZ0.out) Tryd.underlying37 rfl (info_si _ _ _)) rfl (RdP.no (rdK_len (by omega)) rfl (below_setRow HB0.out (Nat.le_refl _) _))
  · have q1 : decide ((n : Int) < 69) = false := by simp; omega
    by_cases h2 : 75 < n
    · have q2 : decide ((n : Int) > 75) = true := by simp; omega
      go_wp2_with (refine wpList_store_row rfl 37 _ _ rfl w.heap.size (siA 0 nilS nilS) rfl rfl 37 _ HZ0.out (info_si _ _ _) rfl (one_si _ _ _ _ _ _ _) ?_)
      exact bodyPost_ret (results_row_tmpO (P := Tryd.prog) rfl _ _ w.heap.size 37 _ (0, 0) _ rfl (setRow_heap _ _ _ _ _ _ HZ0.out) Tryd.underlying37 rfl (info_si _ _ _)) rfl (RdP.no (rdK_len (by omega)) rfl (below_setRow HB0.out (Nat.le_refl _) _))
    · have q2 : decide ((n : Int) > 75) = false := by simp; omega
      obtain ⟨wb, wo, rfl, hwb, hcw⟩ := HL.out.cells (by omega)
      have p1 : (0 : Int) < (n : Int) := by omega
      have p2 : (n : Int) ≤ (cap : Int) := by omega
      have HC0 : Hid (w0.cell? ⟨wb, wo, none⟩ = some (.string (hdB l))) := by
        have h := hcw 0 (by omega)
        rw [Nat.add_zero] at h
        refine (HB0.out.cell (p := ⟨wb, wo, none⟩) (by show wb < w.heap.size; omega)).trans (h.trans ?_)
        unfold hdB
        rw [List.getD_eq_getElem?_getD, List.getElem?_eq_getElem (by omega)]; rfl
      have HCW := Lib.hid hcw
      clear hcw
      have c0 := HC0.out
      go_wp2_with fail
      refine (ParseNumber_any (hdB l) w0 hmx).mono ?_
      rintro e w' ⟨rfl, rfl⟩
      clear c0
      by_cases hk : pnk (hdB l).data.toList = true
      · by_cases hb : 65535 < pnv (hdB l).data.toList
        · have hkb := rdK_big hb
          have HKB := Lib.hid hkb
          have q4 : decide (pnv (hdB l).data.toList > 65535) = true := by simpa using hb
          rw [hk]
          go_wp2_with (refine wpList_store_row rfl 37 _ _ rfl w.heap.size (siA 0 nilS nilS) rfl rfl 37 _ HZ0.out (info_si _ _ _) rfl (one_si _ _ _ _ _ _ _) ?_)
          exact bodyPost_ret (results_row_tmpO (P := Tryd.prog) rfl _ _ w.heap.size 37 _ (0, 0) _ rfl (setRow_heap _ _ _ _ _ _ HZ0.out) Tryd.underlying37 rfl (info_si _ _ _)) rfl (RdP.no HKB.out rfl (below_setRow HB0.out (Nat.le_refl _) _))
        · have q4 : decide (pnv (hdB l).data.toList > 65535) = false := by simpa using hb
          have HPK := Lib.hid hk
          have HPV : Hid (pnv (hdB l).data.toList ≤ 65535) := by show _ ≤ _; omega
          rw [hk]
          clear hb hk
          generalize ha : pnv (hdB l).data.toList = a at *
          have HAE := Lib.hid ha
          clear ha
          have HZN := Lib.hid (SxBox.new w0 0 nilS nilS)
          have HRN := Lib.hid (SxBox.new w0 a nilS nilS)
          go_wp2_with (refine wpList_store_row rfl 37 _ _ rfl w0.heap.size (siA a nilS nilS) rfl rfl 37 _ HZN.out.s (info_si _ _ _) rfl (one_si _ _ _ _ _ _ _) ?_; rw [setRow_new]; generalize hw1 : World.alloc w0 _ = w1; have HS1 : Hid (SxBox w0 a nilS nilS w1) := (by rw [← hw1]; exact HRN.out); clear hw1 HZN HRN)
          clear q1 q2 q4 hbi
          have hs1 : w0.heap.size + 1 ≤ w1.heap.size := Nat.le_of_eq HS1.out.k.symm
          have HR1 : Hid (RdS w w0.heap.size (w.heap.size + 1) a nilS nilS [] [] w1) := ⟨(HS1.out.b.block _ (by omega)).trans HZ0.out, HS1.out.s, OwnHv.nil _ _, OwnHv.nil _ _, .inl ⟨rfl, rfl⟩, HB0.out.trans (HS1.out.b.mono (by omega)), by omega, by omega⟩
          clear HS1 HZ0 HB0
          generalize w0.heap.size = gs at *
          have hdl : (l.drop 1).length = n - 1 := by rw [List.length_drop, hlen]
          go_loopw [39] (fun i wr => ∃ (j bp : Nat) (cv pv : Value), j ≤ n - 1 ∧ i = .int .i64 (j : Int) ∧ ((l.drop 1).take j).all hpK = true ∧ (j ≤ 68 → pv = nilS) ∧ Hid (RdS w gs bp a cv pv ((((l.drop 1).take j).take 68).map hpB) ((((l.drop 1).take j).drop 68).map hpB) wr)) (fun i _ => n - (intOf i).toNat)
          case atStart => exact ⟨0, w.heap.size + 1, nilS, nilS, by omega, by simp, by simp, fun _ => rfl, show RdS w gs (w.heap.size + 1) a nilS nilS _ _ w1 from by simpa using HR1.out⟩
          case round =>
            clear HR1
            obtain ⟨j, bp, cv, pv, hj, rfl, hall, hpv, HR⟩ := hrel
            have hir := HR.out.i; have hmr := HR.out.m
            by_cases hlt : j < n - 1
            · have hd1 : decide ((j : Int) < (n : Int) - 1) = true := by simp; omega
              have p3 : (0 : Int) ≤ (j : Int) := by omega
              have p4 : (j : Int) < (n : Int) - 1 := by omega
              have t1 : wo + 1 + j = wo + (j + 1) := by omega
              have hjl : j < (l.drop 1).length := by omega
              obtain ⟨s, hse⟩ : ∃ s, (l.drop 1)[j] = s := ⟨_, rfl⟩
              have HCJ : Hid (wr.cell? ⟨wb, wo + (j + 1), none⟩ = some (.string s)) := by
                refine (HR.out.b.cell (p := ⟨wb, wo + (j + 1), none⟩) (by show wb < w.heap.size; omega)).trans ((HCW.out (j + 1) (by omega)).trans ?_)
                rw [← hse, List.getElem_drop]; congr 2; simp [Nat.add_comm]
              have cj := HCJ.out
              go_wp2_with fail
              clear cj hd1
              refine (ParseHalf_any s wr).mono ?_
              rintro e w6 ⟨rfl, hb6⟩
              have HR6 := Lib.hid (HR.out.below hb6)
              have hs6 := hb6.size
              clear hb6
              have HY16 : Hid (H16 (hpB s)) := pby_H16 _
              have HZN := Lib.hid (Zro.new w6)
              have HRB := Lib.hid (RowB.new w6 23 (hpB s))
              have HSE := Lib.hid hse
              by_cases hok : pok s.data.toList 16 = true
              · have hallS := tkA hjl hall (show hpK (l.drop 1)[j] = true by rw [hse]; exact hok)
                rw [hok]
                by_cases hlt68 : j < 68
                · have hd2 : decide ((j : Int) < 68) = true := by simp; omega
                  clear hok hall hse
                  go_upto_region 13 with (refine wpList_store_row rfl 23 _ _ rfl w6.heap.size (hvA (hpB s)) rfl rfl 23 _ HZN.out.z (info_h HY16.out) (size_h HY16.out) (one_h _) ?_; rw [setRow_new]; generalize hw9 : World.alloc w6 _ = w9; have HRB9 : Hid (RowB w6 23 (hpB s) w9) := (by rw [← hw9]; exact HRB.out); clear hw9 HZN HRB; have HR9 := Lib.hid (HR6.out.below HRB9.out.b); have HX9 : Hid (w9.heap[w6.heap.size]? = some (.cells (hvA (hpB s)) 23 (0, 0))) := HRB9.out.r; have hs9 : w6.heap.size + 1 ≤ w9.heap.size := Nat.le_of_eq HRB9.out.s.symm)
                  obtain rfl : pv = nilS := hpv (by omega)
                  have HTP : Hid ((((l.drop 1).take j).drop 68).map hpB = []) := tkP1 (by omega)
                  rw [HTP.out] at HR9
                  have kf := si_c HR9.out.g
                  have HNE : Hid (j = ((((l.drop 1).take j).take 68).map hpB).length) := by show _ = _; simp [List.length_take, List.length_drop]; omega
                  have hi9 := HR9.out.i; have hm9 := HR9.out.m
                  have hN9 : j ≤ 1000000 := by omega
                  go_wp2_with (first
                    | (refine wpList_load_row rfl 23 _ rfl w6.heap.size rfl 23 _ (0, 0) _ HX9.out Tryd.underlying23 rfl (info_h HY16.out) ?_)
                    | (refine wpList_slice_eqG rfl 35 1 [(0, .tmp 56)] rfl [(0, .agg (hvA (hpB s)))] rfl _ _ (sliceHv _ (hpB s) HY16.out) ?_; generalize hw7 : World.alloc w9 _ = w7; have HB7 : Hid (Below w9.heap.size w9 w7) := (by rw [← hw7]; exact below_alloc _ _); have HQ7 : Hid (w7.rangeAt w9.heap.size 0 ((hpB s).map (Value.int .u8))) := (by rw [← hw7]; intro j v hv; rw [Nat.zero_add]; exact heap_cellO (heap_alloc_new w9 _) hv); have HR7 := Lib.hid (HR9.out.below HB7.out); have hs7 := HB7.out.size; clear hw7 kf)
                    | (at_builtin; refine wpList_append_hv rfl (.tmp 55) (.tmp 57) rfl (w.heap.size + 1) cv _ j HNE.out rfl HR7.out.c w9.heap.size (hpB s) rfl HQ7.out HY16.out hN9 (by omega) ?_; intro sp8 cap8 w8 HO8 HB8 HG8; have HAP := Lib.hid (HR7.out.addC HB8.out HG8.out HO8.out); have kg := si_c HAP.out.1; have fg := frozen_of_row _ _ 1 _ _ HAP.out.1))
                  clear kg fg
                  have HRZ := Lib.hid HAP.out.2
                  clear HAP HO8 HB8 HG8
                  generalize World.setCell w8 _ _ = wz at *
                  go_roundw
                  case rel => exact ⟨j + 1, bp, (.slice sp8 (j + 1) cap8), nilS, by omega, by go_num, hallS, fun _ => rfl, by rw [tkC1 hjl hlt68, tkP1 (show j + 1 ≤ 68 by omega), HSE.out]; exact HRZ.out⟩
                  case measure => simp [intOf]; omega
                · have hd2 : decide ((j : Int) < 68) = false := by simp; omega
                  clear hok hall hse
                  go_upto_region 13 with (refine wpList_store_row rfl 23 _ _ rfl w6.heap.size (hvA (hpB s)) rfl rfl 23 _ HZN.out.z (info_h HY16.out) (size_h HY16.out) (one_h _) ?_; rw [setRow_new]; generalize hw9 : World.alloc w6 _ = w9; have HRB9 : Hid (RowB w6 23 (hpB s) w9) := (by rw [← hw9]; exact HRB.out); clear hw9 HZN HRB; have HR9 := Lib.hid (HR6.out.below HRB9.out.b); have HX9 : Hid (w9.heap[w6.heap.size]? = some (.cells (hvA (hpB s)) 23 (0, 0))) := HRB9.out.r; have hs9 : w6.heap.size + 1 ≤ w9.heap.size := Nat.le_of_eq HRB9.out.s.symm)
                  obtain ⟨bq, hr9, hcb⟩ := HR9.out.apartP
                  have HCB := Lib.hid hcb
                  have HR9' := Lib.hid hr9
                  clear HR9 hcb hr9
                  have HR9 := HR9'
                  clear HR9'
                  have kf := si_p HR9.out.g
                  have HNE : Hid ((j - 68) = ((((l.drop 1).take j).drop 68).map hpB).length) := by show _ = _; simp [List.length_take, List.length_drop]; omega
                  have hi9 := HR9.out.i; have hm9 := HR9.out.m
                  have hN9 : (j - 68) ≤ 1000000 := by omega
                  go_wp2_with (first
                    | (refine wpList_load_row rfl 23 _ rfl w6.heap.size rfl 23 _ (0, 0) _ HX9.out Tryd.underlying23 rfl (info_h HY16.out) ?_)
                    | (refine wpList_slice_eqG rfl 35 1 [(0, .tmp 62)] rfl [(0, .agg (hvA (hpB s)))] rfl _ _ (sliceHv _ (hpB s) HY16.out) ?_; generalize hw7 : World.alloc w9 _ = w7; have HB7 : Hid (Below w9.heap.size w9 w7) := (by rw [← hw7]; exact below_alloc _ _); have HQ7 : Hid (w7.rangeAt w9.heap.size 0 ((hpB s).map (Value.int .u8))) := (by rw [← hw7]; intro j v hv; rw [Nat.zero_add]; exact heap_cellO (heap_alloc_new w9 _) hv); have HR7 := Lib.hid (HR9.out.below HB7.out); have hs7 := HB7.out.size; clear hw7 kf)
                    | (at_builtin; refine wpList_append_hv rfl (.tmp 61) (.tmp 63) rfl bq pv _ (j - 68) HNE.out rfl HR7.out.p w9.heap.size (hpB s) rfl HQ7.out HY16.out hN9 (by omega) ?_; intro sp8 cap8 w8 HO8 HB8 HG8; have HAP := Lib.hid (HR7.out.addP HCB.out HB8.out HG8.out HO8.out); have kg := si_p HAP.out.1; have fg := frozen_of_row _ _ 2 _ _ HAP.out.1))
                  clear kg fg
                  have HRZ := Lib.hid HAP.out.2
                  clear HAP HO8 HB8 HG8
                  generalize World.setCell w8 _ _ = wz at *
                  go_roundw
                  case rel => exact ⟨j + 1, bq, cv, (.slice sp8 ((j - 68) + 1) cap8), by omega, by go_num, hallS, fun h => absurd h (by omega), by rw [tkC2 (by omega), tkP2 hjl (by omega), HSE.out]; exact HRZ.out⟩
                  case measure => simp [intOf]; omega
              · have hok2 : pok s.data.toList 16 = false := by simpa using hok
                have HKB := Lib.hid (rdK_bad hjl (by rw [hse]; exact hok2))
                rw [hok2]
                clear hok2
                have hbi := buildSi0
                clear hok hall hse hpv
                go_upto_region 12 with (refine wpList_store_row rfl 23 _ _ rfl w6.heap.size (hvA (hpB s)) rfl rfl 23 _ HZN.out.z (info_h HY16.out) (size_h HY16.out) (one_h _) ?_; rw [setRow_new]; generalize hw9 : World.alloc w6 _ = w9; have HRB9 : Hid (RowB w6 23 (hpB s) w9) := (by rw [← hw9]; exact HRB.out); clear hw9 HZN HRB; have HR9 := Lib.hid (HR6.out.below HRB9.out.b); have HX9 : Hid (w9.heap[w6.heap.size]? = some (.cells (hvA (hpB s)) 23 (0, 0))) := HRB9.out.r; have hs9 : w6.heap.size + 1 ≤ w9.heap.size := Nat.le_of_eq HRB9.out.s.symm)
                go_wp2_with (refine wpList_store_row rfl 37 _ _ rfl w.heap.size (siA 0 nilS nilS) rfl rfl 37 _ HR9.out.z (info_si _ _ _) rfl (one_si _ _ _ _ _ _ _) ?_)
                exact bodyPost_ret (results_row_tmpO (P := Tryd.prog) rfl _ _ w.heap.size 37 _ (0, 0) _ rfl (setRow_heap _ _ _ _ _ _ HR9.out.z) Tryd.underlying37 rfl (info_si _ _ _)) rfl (RdP.no HKB.out rfl (below_setRow HR9.out.b (Nat.le_refl _) _))
            · obtain rfl : j = n - 1 := by omega
              have hd1 : decide (((n - 1 : Nat) : Int) < (n : Int) - 1) = false := by simp; omega
              have HTK : Hid ((l.drop 1).take (n - 1) = l.drop 1) := List.take_of_length_le (by omega)
              rw [HTK.out] at hall HR
              have HKY := Lib.hid (rdK_yes (l := l) (by omega) HPK.out (by rw [HAE.out]; exact HPV.out) hall)
              clear hall hpv
              obtain ⟨sp1, c1, e1⟩ := own_shapeG HR.out.c.1
              obtain ⟨sp2, c2, e2⟩ := own_shapeG HR.out.p.1
              obtain ⟨N1, hN1⟩ : ∃ N, (((l.drop 1).take 68).map hpB).length = N := ⟨_, rfl⟩
              obtain ⟨N2, hN2⟩ : ∃ N, (((l.drop 1).drop 68).map hpB).length = N := ⟨_, rfl⟩
              rw [hN1] at e1
              rw [hN2] at e2
              have HN1 := Lib.hid hN1; have HN2 := Lib.hid hN2
              clear hN1 hN2
              subst e1 e2
              go_wp2_with (first
                | (refine wpList_load_row rfl 37 _ rfl gs rfl 37 _ (0, 0) _ HR.out.g Tryd.underlying37 rfl (info_si _ _ _) ?_)
                | (refine wpList_store_row rfl 37 _ _ rfl w.heap.size _ rfl rfl 37 _ HR.out.z (info_si _ _ _) rfl (one_si _ _ _ _ _ _ _) ?_))
              refine bodyPost_ret (results_row_tmpO (P := Tryd.prog) rfl _ _ w.heap.size 37 _ (0, 0) _ rfl (setRow_heap _ _ _ _ _ _ HR.out.z) Tryd.underlying37 rfl (info_si _ _ _)) rfl (RdP.yes HKY.out (n1 := N1) (n2 := N2) (sp1 := sp1) (sp2 := sp2) (c1 := c1) (c2 := c2) (by rw [HAE.out]; rfl) HN1.out.symm HN2.out.symm ?_ ?_ (below_setRow HR.out.b (Nat.le_refl _) _))
              · exact OwnHv.setRow (base := w.heap.size) (HR.out.c.base (Nat.le_succ _)) HR.out.z ne_si _
              · exact OwnHv.setRow (base := w.heap.size) (HR.out.p.base (by have := HR.out.m; omega)) HR.out.z ne_si _
      · have hk2 : pnk (hdB l).data.toList = false := by simpa using hk
        have HKB := Lib.hid (rdK_pnk hk2)
        rw [hk2]
        clear hk hk2
        go_wp2_with (refine wpList_store_row rfl 37 _ _ rfl w.heap.size (siA 0 nilS nilS) rfl rfl 37 _ HZ0.out (info_si _ _ _) rfl (one_si _ _ _ _ _ _ _) ?_)
        exact bodyPost_ret (results_row_tmpO (P := Tryd.prog) rfl _ _ w.heap.size 37 _ (0, 0) _ rfl (setRow_heap _ _ _ _ _ _ HZ0.out) Tryd.underlying37 rfl (info_si _ _ _)) rfl (RdP.no HKB.out rfl (below_setRow HB0.out (Nat.le_refl _) _))
end Go.Proofs.YtbfgkbcpkldofaaDoor

namespace Go.Proofs.YtbfgkbcpkldofaaDoor
open Go.RowKit Go.Proofs.YtbfgkbcpkldofaaDoor.One

theorem zeroCells_sizeH (z : Array Value) (n : Nat) : (Builtin.zeroCells z n).size = n * z.size := by simp [Builtin.zeroCells]
set_option maxRecDepth 100000 in
set_option maxHeartbeats 1000000 in
theorem growH_any (n : Nat) (h0 : 0 < n) (hn : n ≤ 1000000000000) (w : World) :
    Calls Tryd.prog 68 #[.slice none 0 0, .int .i64 n] w fun e w' => ∃ c, n ≤ c ∧ e = .returned (.slice (some ⟨w.heap.size, 0, none⟩) 0 c) ∧ w'.ownsRow w.heap.size 23 16 (.slice (some ⟨w.heap.size, 0, none⟩) 0 c) 0 [] ∧ Below w.heap.size w w' := by
  obtain ⟨i0, hi0, hz0, hz1, hz2⟩ := info_partsN infoH3
  have hrz : ∀ ty, (Builtin.append_ #[35, 3] ty #[.slice none 0 0, .int .i64 (n : Int)]).run Tryd.prog w = .ok (.slice (some ⟨w.heap.size, 0, none⟩) n (grownCap w n 0 23))
      (w.drew.alloc (.cells (([] : List Value).toArray ++ Builtin.zeroCells ((.agg (List.replicate 16 (Value.int .u8 0)).toArray) : Value).cells n ++ Builtin.zeroCells ((.agg (List.replicate 16 (Value.int .u8 0)).toArray) : Value).cells (grownCap w n 0 23 - n)) 23)) := fun ty => by
    have h := Lib.run_append_grow_zeros w 35 3 ty 23 i0 (.agg (List.replicate 16 (Value.int .u8 0)).toArray) .i64 .i64 Tryd.underlying35 Tryd.underlying3 hi0 hz0 none 0 0 [] (run_firstCells_none w.drew i0.size 0 0 0) n h0 (by omega) (by omega) (by omega) (by rw [hz2]; omega)
      (by unfold Builtin.nextslicecap; rw [if_pos (by omega), hz2]; omega)
    rw [Nat.zero_add] at h
    exact h
  have hGn : n ≤ grownCap w n 0 23 := grownCap_ge w _ _ _
  obtain ⟨G, hG⟩ : ∃ G, G = grownCap w n 0 23 := ⟨_, rfl⟩
  have hGm : grownCap w n 0 23 ≤ maxLen := grownCap_le_maxLen w n 0 23 (by unfold maxLen; omega)
  rw [← hG] at hrz hGn hGm
  have hsz : (([] : List Value).toArray ++ Builtin.zeroCells ((.agg (List.replicate 16 (Value.int .u8 0)).toArray) : Value).cells n ++ Builtin.zeroCells ((.agg (List.replicate 16 (Value.int .u8 0)).toArray) : Value).cells (G - n)).size = G * 16 := by
    have e1 : ((.agg (List.replicate 16 (Value.int .u8 0)).toArray) : Value).cells.size = 16 := by rfl
    rw [Array.size_append, Array.size_append, zeroCells_sizeH, zeroCells_sizeH, e1]
    show 0 + n * 16 + (G - n) * 16 = G * 16
    omega
  have HOWN := Lib.hid (World.ownsRow_made (e := 23) (size := 16) w.drew _ G (Nat.le_refl _) hGm hsz)
  have hbel : Below w.heap.size w (w.drew.alloc (.cells (([] : List Value).toArray ++ Builtin.zeroCells ((.agg (List.replicate 16 (Value.int .u8 0)).toArray) : Value).cells n ++ Builtin.zeroCells ((.agg (List.replicate 16 (Value.int .u8 0)).toArray) : Value).cells (G - n)) 23)) := (Below.refl w.heap.size w).drew.alloc (Nat.le_refl _) _
  have HB := Lib.hid hbel
  have hG63 : (G : Int) ≤ 9223372036854775807 := by unfold maxLen at hGm; omega
  have p1 : (0 : Int) ≤ (G : Int) := by omega
  have p2 : (0 : Int) ≤ (n : Int) := by omega
  have p3 : (n : Int) ≤ (G : Int) := by omega
  have hd1 : decide ((n : Int) < 0) = false := by simp
  have hd2 : decide ((n : Int) > 0) = true := by simp; omega
  have w1 : IntKind.i64.wrap (n : Int) = (n : Int) := IntWalk.i64_in _ (by omega)
  have w2 : wrap64 (n : Int) = (n : Int) := by unfold wrap64; omega
  clear hbel hsz hG
  generalize hW : World.alloc w.drew _ = W at hrz HOWN HB
  clear hW
  have HG := Lib.hid hGn
  go_enter Tryd.func68, Tryd.ntmps68
  go_wp2_with (at_builtin; refine Lib.wpList_append_run _ rfl _ _ _ _ rfl _ _ rfl rfl _ _ (hrz _) ?_)
  all_goals (go_ret; exact ⟨G, HG.out, rfl, HOWN.out, HB.out⟩)
set_option maxRecDepth 100000 in
set_option maxHeartbeats 1000000 in
theorem growH_zero (w : World) : Calls Tryd.prog 68 #[.slice none 0 0, .int .i64 0] w fun e w' => e = .returned (.slice none 0 0) ∧ w = w' := by
  go_enter Tryd.func68, Tryd.ntmps68
  go_wp2_with fail
  go_ret
  exact ⟨rfl, rfl⟩
set_option maxRecDepth 100000 in
/-- append(own, list of halves) -/
theorem wpList_append_hs {w : World} {ops : Array Oper} {rest : List Oper} {o : Oper} {a : Act} {Q : Exit → Act → World → Prop} (hgd : o.guard = none) (s x : Operand)
    (ho : o.op = .call { callee := .builtin .append, args := #[s, x], argTypes := #[35, 35] }) (base : Nat) (v : Value) (l : List (List Int)) (n : Nat) (hn : n = l.length) (hs : a.eval s = v) (hown : OwnHv w base v l)
    (sp2 : Option Addr) (m cap2 B : Nat) (l2 : List (List Int)) (hx : a.eval x = .slice sp2 m cap2) (hsrc : HvsIn w B sp2 m cap2 l2) (hnil : sp2 = none → cap2 = 0) (hlen : n + m ≤ 1000000) (hbase : base ≤ w.heap.size)
    (h : ∀ sp cap w', Hid (OwnHv w' base (.slice sp (n + m) cap) (l ++ l2)) → Hid (Below base w w') → Hid (w.grownBy w' v.ownBlock) → wpList Tryd.prog ops Q rest (a.put o.dst (.slice sp (n + m) cap)) w') : wpList Tryd.prog ops Q (o :: rest) a w := by
  subst hn
  obtain ⟨i0, hi0, hz0, hz1, hz2⟩ := info_partsN infoH3
  have hl2 := hsrc.len
  have hrl := rowsH_len l2 hsrc.ok
  cases sp2 with
  | none =>
    have hm : m = 0 := by
      by_cases h0 : 0 < m
      · obtain ⟨_, _, e, _⟩ := hsrc.cells h0; cases e
      · omega
    subst hm
    have e2 : l2 = [] := List.eq_nil_of_length_eq_zero hl2
    subst e2
    rw [hnil rfl] at hx
    obtain ⟨sp, cap, rfl⟩ := own_shapeG hown.1
    refine wpList_append_own_none hgd s x _ ho base _ i0 16 Tryd.underlying35 hi0 _ l.length _ hs hown.1 hx ?_
    exact h sp cap w (by show OwnHv _ _ _ _; simpa using hown) (Below.refl _ _) (World.grownBy.refl _ _)
  | some ad =>
    refine wpList_append_own w hgd s x _ ho base _ i0 _ 16 16 Tryd.underlying35 hi0 hz0 hz1 hz2 rfl (by decide) v l.length _ hs hown.1 ad m cap2 (rowsH l2) hx (by rw [hrl, hl2]) ?_ (fun u hu => by obtain ⟨q, _, hq⟩ := List.mem_flatMap.1 hu; obtain ⟨i, _, rfl⟩ := List.mem_map.1 hq; rfl) (by unfold maxLen; omega) (by omega) hbase ?_
    · intro j u hj
      have hjl : j < l2.length * 16 := by have := (List.getElem?_eq_some_iff.1 hj).1; omega
      have hi : j / 16 < m := by omega
      obtain ⟨b, off, e, _, _, hr⟩ := hsrc.cells (by omega)
      injection e with e; subst e
      have ej : j / 16 * 16 + j % 16 = j := by omega
      have h16 := hsrc.at16 hi
      have hx16 : ((l2.getD (j / 16) []).map (Value.int .u8))[j % 16]? = some (((l2.getD (j / 16) []).map (Value.int .u8))[j % 16]'(by rw [List.length_map, h16.1]; omega)) := List.getElem?_eq_getElem _
      have hf := flat_atG (fun d : List Int => d.map (Value.int .u8)) 16 l2 (fun q hq => by rw [List.length_map, (hsrc.ok q hq).1]) (j / 16) (l2.getD (j / 16) []) (by rw [List.getD_eq_getElem?_getD, List.getElem?_eq_getElem (by omega)]; rfl) (j % 16) _ hx16
      rw [ej] at hf
      unfold rowsH at hj
      rw [hj] at hf
      injection hf with hf
      have hc := hr (j / 16) hi (j % 16) _ hx16
      rw [← hf, Nat.add_assoc, ej] at hc
      rw [Addr.add_mid]; exact hc
    · intro v' w' h1 h2 _
      have h3 : w'.ownsRow base 23 16 v' (l ++ l2).length (rowsH (l ++ l2)) := by
        unfold rowsH at h1 ⊢
        rw [List.length_append, List.flatMap_append, hl2]; exact h1
      obtain ⟨sp, cap, rfl⟩ := own_shapeG h1
      exact h sp cap w' ⟨h3, fun z hz => by
        rcases List.mem_append.1 hz with hz | hz
        · exact hown.2 z hz
        · exact hsrc.ok z hz⟩ ((Below.refl base w).grown h2 hbase (own_baseG hown.1)) h2
/-- two slices in a row -/
structure TwoS (w : World) (g : Nat) (v1 v2 : Value) : Prop where
  r : w.heap[g]? = some (.cells #[v1, v2] 35 (0, 0))
theorem TwoS.c0 {w : World} {g : Nat} {v1 v2 : Value} (h : TwoS w g v1 v2) : w.cell? ⟨g, 0, none⟩ = some v1 := heap_cellO (L := [v1, v2]) h.r rfl
theorem TwoS.c1 {w : World} {g : Nat} {v1 v2 : Value} (h : TwoS w g v1 v2) : w.cell? ⟨g, 1, none⟩ = some v2 := heap_cellO (L := [v1, v2]) h.r rfl
theorem TwoS.below {w w' : World} {g B : Nat} {v1 v2 : Value} (h : TwoS w g v1 v2) (hb : Below B w w') (hg : g < B) : TwoS w' g v1 v2 := ⟨(hb.block _ hg).trans h.r⟩
def cutL (cl pl : List (List Int)) (k : Nat) : List (List Int) := if k = 0 then [] else if k = 1 then cl else cl ++ pl
def cutN (n m k : Nat) : Nat := if k = 0 then 0 else if k = 1 then n else n + m
set_option maxRecDepth 100000 in
set_option maxHeartbeats 2000000 in
theorem concatH_any (g : Nat) (sp1 : Option Addr) (n c1 : Nat) (cl : List (List Int)) (sp2 : Option Addr) (m c2 : Nat) (pl : List (List Int)) (w : World) (ht : TwoS w g (.slice sp1 n c1) (.slice sp2 m c2)) (hg : g < w.heap.size) (hc : HvsIn w w.heap.size sp1 n c1 cl) (hp : HvsIn w w.heap.size sp2 m c2 pl) (hn1 : sp1 = none → c1 = 0) (hn2 : sp2 = none → c2 = 0) (hn : n ≤ 1000) (hm : m ≤ 1000) :
    Calls Tryd.prog 31 #[.slice (some ⟨g, 0, none⟩) 2 2] w fun e w' => ∃ sp cap, e = .returned (.slice sp (n + m) cap) ∧ OwnHv w' w.heap.size (.slice sp (n + m) cap) (cl ++ pl) ∧ Below w.heap.size w w' := by
  have HT := Lib.hid ht; have HC := Lib.hid hc; have HP := Lib.hid hp; have HN1 := Lib.hid hn1; have HN2 := Lib.hid hn2
  clear ht hc hp hn1 hn2
  go_enter Tryd.func31, Tryd.ntmps31
  go_wp2_with fail
  go_loopw [3, 11] (fun v i wr => ∃ k : Nat, k ≤ 2 ∧ i = .int .i64 (k : Int) ∧ v = .int .i64 ((cutN n m k : Nat) : Int) ∧ w = wr) (fun _ i _ => 2 - (intOf i).toNat)
  case atStart => exact ⟨0, by omega, rfl, rfl, rfl⟩
  case round =>
    obtain ⟨k, hk, rfl, rfl, rfl⟩ := hrel
    have c0 := HT.out.c0
    have c1' := HT.out.c1
    rcases (show k = 0 ∨ k = 1 ∨ k = 2 by omega) with rfl | rfl | rfl
    · have e0 : cutN n m 0 = 0 := rfl
      rw [e0]
      have hd2 : decide ((n : Int) < 0) = false := by simp
      have w1 : IntKind.i64.wrap (n : Int) = (n : Int) := IntWalk.i64_in _ (by omega)
      have w2 : wrap64 (n : Int) = (n : Int) := by unfold wrap64; omega
      go_wp2_with fail
      go_roundw
      case rel => exact ⟨1, by omega, by go_num, by first | rfl | go_num | simp [cutN], by first | rfl | trivial⟩
      case measure => simp [intOf]
    · have e0 : cutN n m 1 = n := rfl
      rw [e0]
      have hd2 : decide ((n : Int) + (m : Int) < 0) = false := by simp; omega
      have w1 : IntKind.i64.wrap ((n : Int) + (m : Int)) = (n : Int) + (m : Int) := IntWalk.i64_in _ (by omega)
      have w2 : wrap64 ((n : Int) + (m : Int)) = (n : Int) + (m : Int) := by unfold wrap64; omega
      go_wp2_with fail
      go_roundw
      case rel => exact ⟨2, by omega, by go_num, by first | rfl | go_num | simp [cutN], by first | rfl | trivial⟩
      case measure => simp [intOf]
    · have e0 : cutN n m 2 = n + m := rfl
      rw [e0]
      clear c0 c1' e0
      obtain ⟨N, hN⟩ : ∃ N, n + m = N := ⟨_, rfl⟩
      rw [hN]
      have HN := Lib.hid hN
      have hN2 : N ≤ 2000 := by omega
      clear hN
      have hgrow : Calls Tryd.prog 68 #[.slice none 0 0, .int .i64 N] w fun e w' => ∃ sp cap, e = .returned (.slice sp 0 cap) ∧ OwnHv w' w.heap.size (.slice sp 0 cap) [] ∧ Below w.heap.size w w' := by
        by_cases h0 : 0 < N
        · exact (growH_any N h0 (by omega) w).mono fun e w' ⟨c, _, he, ho, hb⟩ => ⟨_, c, he, ⟨ho, by simp⟩, hb⟩
        · obtain rfl : N = 0 := by omega
          refine (growH_zero w).mono ?_
          rintro e w' ⟨rfl, rfl⟩
          exact ⟨none, 0, rfl, OwnHv.nil _ _, Below.refl _ _⟩
      have HGR := Lib.hid hgrow; clear hgrow
      go_wp2_with fail
      refine HGR.out.mono ?_
      rintro e w1 ⟨spg, cg, rfl, hog, hbg⟩
      have HB1 := Lib.hid hbg
      have HOG := Lib.hid hog
      clear hog hbg HGR
      go_wp2_with fail
      go_loopw [6, 27] (fun v i wr => ∃ (j N : Nat) (sp : Option Addr) (cap : Nat), j ≤ 2 ∧ i = .int .i64 (j : Int) ∧ v = .slice sp N cap ∧ Hid (N = cutN n m j) ∧ Hid (OwnHv wr w.heap.size (.slice sp N cap) (cutL cl pl j)) ∧ Hid (Below w.heap.size w wr)) (fun _ i _ => 2 - (intOf i).toNat)
      case atStart => exact ⟨0, 0, _, _, by omega, rfl, rfl, rfl, HOG.out, HB1.out⟩
      case round =>
        rename_i wr2 _
        obtain ⟨j, N, sp, cap, hj, rfl, rfl, HM, HOW, HBR⟩ := hrel
        have c0 := (HT.out.below HBR.out hg).c0
        have c1' := (HT.out.below HBR.out hg).c1
        have hbs := HBR.out.size
        rcases (show j = 0 ∨ j = 1 ∨ j = 2 by omega) with rfl | rfl | rfl
        · obtain rfl : N = 0 := HM.out
          have HCr := Lib.hid (HC.out.below HBR.out (Nat.le_refl _))
          go_wp2_with (at_builtin; refine wpList_append_hs rfl (.tmp 31) (.tmp 32) rfl w.heap.size _ [] 0 rfl rfl HOW.out _ _ _ _ cl rfl HCr.out HN1.out (by omega) hbs ?_; intro sp5 cap5 w5 HO5 HB5 HG5)
          go_roundw
          case rel => exact ⟨1, n, sp5, cap5, by omega, by go_num, by first | rfl | trivial, rfl, (show OwnHv _ _ _ _ from by have h := HO5.out; rw [Nat.zero_add] at h; exact h), HBR.out.trans HB5.out⟩
          case measure => simp [intOf]
        · obtain rfl : N = n := HM.out
          have HPr := Lib.hid (HP.out.below HBR.out (Nat.le_refl _))
          have HLN : Hid (N = cl.length) := HC.out.len.symm
          go_wp2_with (at_builtin; refine wpList_append_hs rfl (.tmp 31) (.tmp 32) rfl w.heap.size _ cl N HLN.out rfl HOW.out _ _ _ _ pl rfl HPr.out HN2.out (by omega) hbs ?_; intro sp5 cap5 w5 HO5 HB5 HG5)
          go_roundw
          case rel => exact ⟨2, N + m, sp5, cap5, by omega, by go_num, by first | rfl | trivial, rfl, HO5.out, HBR.out.trans HB5.out⟩
          case measure => simp [intOf]
        · obtain rfl : N = n + m := HM.out
          go_wp2_with fail
          go_ret
          exact ⟨sp, cap, rfl, HOW.out, HBR.out⟩
end Go.Proofs.YtbfgkbcpkldofaaDoor
