/-
  One-time signatures: the walks of the reference's Public, and of Sign and Recover, the program's and the reference's (condition: the table of constants reads as it is laid).
-/
import Derived.Test.YtkeieacmboidoaaDoorOneP
import Derived.Deep.RegionHeld3
namespace Go.Proofs.YtkeieacmboidoaaDoor
open Go.RowKit Go.Proofs.YtkeieacmboidoaaDoor.One

/-- append(own, x) at an operation -/
theorem wp_append_hv {w : World} {o : Oper} {a : Act} {K : Act → World → Prop} {Q : Exit → Act → World → Prop} (s x : Operand)
    (ho : o.op = .call { callee := .builtin .append, args := #[s, x], argTypes := #[25, 25] }) (base : Nat) (v : Value) (l : List (List Int)) (n : Nat) (hn : n = l.length) (hs : a.eval s = v) (hown : OwnHv w base v l)
    (g : Nat) (y : List Int) (hx : a.eval x = .slice (some ⟨g, 0, none⟩) 1 1) (hy : w.rangeAt g 0 (y.map (Value.int .u8))) (hok : H16 y) (hlen : n ≤ 1000000) (hbase : base ≤ w.heap.size)
    (h : ∀ sp cap w', Hid (OwnHv w' base (.slice sp (n + 1) cap) (l ++ [y])) → Hid (Below base w w') → Hid (w.grownBy w' v.ownBlock) → K (a.put o.dst (.slice sp (n + 1) cap)) w') : o.wp Tryd.prog a w K Q := by
  subst hn
  obtain ⟨i0, hi0, hz0, hz1, hz2⟩ := info_partsN infoH3
  refine wp_append_own w s x _ ho base _ i0 _ 16 16 Tryd.underlying25 hi0 hz0 hz1 hz2 rfl (by decide) v l.length _ hs hown.1 ⟨g, 0, none⟩ 1 1 (y.map (Value.int .u8)) hx (by rw [List.length_map, hok.1]) ?_ (one_map _ _) (by unfold maxLen; omega) (by omega) hbase ?_
  · intro j u hj
    rw [Addr.add_mid]
    exact hy j u hj
  · intro v' w' h1 h2 _
    obtain ⟨sp, cap, rfl⟩ := own_shapeG h1
    refine h sp cap w' ⟨by rw [rowsH_snoc, List.length_append]; exact h1, fun z hz => ?_⟩ ((Below.refl base w).grown h2 hbase (own_baseG hown.1)) h2
    rcases List.mem_append.1 hz with hz | hz
    · exact hown.2 z hz
    · rw [List.mem_singleton.1 hz]; exact hok
/-- the digits lie in block g -/
def DgIn (w : World) (g : Nat) (l : List Int) : Prop := ∃ cur, w.heap[g]? = some (.cells cur 3 (0, 0)) ∧ ∀ j, j < l.length → cur[j]? = some (.int .i64 (l.getD j 0))
theorem OwnN.dg {w : World} {base : Nat} {sp : Option Addr} {n cap : Nat} {l : List Int} (h : OwnN w base (.slice sp n cap) l) (hl : l.length = n) (hn : 0 < n) : ∃ g, sp = some ⟨g, 0, none⟩ ∧ base ≤ g ∧ DgIn w g l ∧ n ≤ cap := by
  obtain ⟨h0, h | ⟨g, c, cur, e, hg, h1, h2, h3, h4, h5⟩⟩ := h
  · have e := h.1; simp only [Value.slice.injEq] at e; omega
  · simp only [Value.slice.injEq] at e
    obtain ⟨e1, e2, e3⟩ := e
    subst e3
    refine ⟨g, e1, hg, ⟨cur, h1, fun j hj => ?_⟩, by omega⟩
    have h6 : (nv l)[j]? = some (.int .i64 (l.getD j 0)) := by
      unfold nv
      rw [List.getElem?_map, List.getD_eq_getElem?_getD, List.getElem?_eq_getElem hj]; rfl
    rw [← h5, List.getElem?_take, if_pos (by omega)] at h6
    simpa using h6
theorem DgIn.cell {w : World} {g : Nat} {l : List Int} (h : DgIn w g l) {j : Nat} (hj : j < l.length) : w.cell? ⟨g, j, none⟩ = some (.int .i64 (l.getD j 0)) := by
  obtain ⟨cur, h1, h2⟩ := h
  rw [cell_of_row w g j cur _ _ h1]; exact h2 j hj
theorem DgIn.lt {w : World} {g : Nat} {l : List Int} (h : DgIn w g l) : g < w.heap.size := by obtain ⟨cur, h1, _⟩ := h; exact (Array.getElem?_eq_some_iff.1 h1).1
theorem DgIn.below {w w' : World} {g B : Nat} {l : List Int} (h : DgIn w g l) (hb : Below B w w') (hg : g < B) : DgIn w' g l := by
  obtain ⟨cur, h1, h2⟩ := h
  exact ⟨cur, (hb.block g hg).trans h1, h2⟩
theorem DgIn.grown {w w' : World} {g base : Nat} {l : List Int} {v : Value} {hs : List (List Int)} (h : DgIn w g l) (ho : OwnHv w base v hs) (hg : w.grownBy w' v.ownBlock) : DgIn w' g l := by
  have hlt := h.lt
  obtain ⟨cur, h1, h2⟩ := h
  refine ⟨cur, (hg.block g hlt (fun ek => ?_)).trans h1, h2⟩
  obtain ⟨_, ⟨rfl, _⟩ | ⟨g2, cap, cur2, rfl, _, hg2, _⟩⟩ := ho.1
  · simp [Value.ownBlock] at ek
  · have e2 : g = g2 := by simpa [Value.ownBlock] using ek
    subst e2
    rw [h1] at hg2
    injection hg2 with e3
    simp at e3
theorem setCells_heap {g k : Nat} (hk : k ≠ g) : ∀ (vs : List Value) (o : Nat) (w : World), (w.setCells g o vs).heap[k]? = w.heap[k]?
  | [], _, _ => rfl
  | v :: r, o, w => (setCells_heap hk r (o + 1) _).trans (Below.heap_setCell w ⟨g, o, none⟩ v k hk)
theorem DgIn.put {w : World} {g b o : Nat} {l : List Int} {vs : List Value} (h : DgIn w g l) (hne : g ≠ b) : DgIn (w.setCells b o vs) g l := by
  obtain ⟨cur, h1, h2⟩ := h
  exact ⟨cur, (setCells_heap hne vs o w).trans h1, h2⟩
theorem digs_at {d : List Int} (hd : D32 d) {k : Nat} (hk : k < 68) : 0 ≤ (digs d).getD k 0 ∧ (digs d).getD k 0 ≤ 3 := by
  have hl := digs_length hd.1
  have e : (digs d).getD k 0 = (digs d)[k]'(by omega) := by rw [List.getD_eq_getElem?_getD, List.getElem?_eq_getElem (by omega)]; rfl
  rw [e]; exact digs_range (List.getElem_mem _)
def sigE (x : List Int) (leaf : Int) (d : List Int) (i : Nat) : List Int := climbB (secB x leaf i) leaf i 0 ((digs d).getD i 0)
def sigB (x : List Int) (leaf : Int) (d : List Int) : List (List Int) := (List.range 68).map (sigE x leaf d)
theorem sigE_H16 (x : List Int) (leaf : Int) (d : List Int) (i : Nat) : H16 (sigE x leaf d i) := climbB_H16 (secB_H16 _ _ _) _ _ _ _
def recE (leaf : Int) (d : List Int) (sig : List (List Int)) (i : Nat) : List Int := climbB (sig.getD i []) leaf i ((digs d).getD i 0) 3
def recB (leaf : Int) (d : List Int) (sig : List (List Int)) : List Int := comB leaf ((List.range 68).map (recE leaf d sig))
theorem recB_H16 (leaf : Int) (d : List Int) (sig : List (List Int)) : H16 (recB leaf d sig) := comB_H16 _ _
/-- a list of halves that is made by a rule -/
theorem range_H16 {E : Nat → List Int} (h : ∀ i, H16 (E i)) (k : Nat) : ∀ x ∈ (List.range k).map E, H16 x := fun x hx => by obtain ⟨i, _, rfl⟩ := List.mem_map.1 hx; exact h i
set_option maxRecDepth 100000 in
set_option maxHeartbeats 4000000 in
theorem rpublic_any (x : List Int) (leaf : Int) (w : World) (hs : H16 x) :
    Calls Tryd.prog 17 #[.agg (hvA x), .int .i64 leaf] w fun e w' => e = .returned (.agg (hvA (pubB x leaf))) ∧ Below w.heap.size w w' := by
  have HS := Lib.hid hs; clear hs
  have HT := Lib.hid (Two.new w x)
  go_enter Tryd.func17, Tryd.ntmps17
  go_wp2_with fail
  generalize hw0 : World.alloc (World.alloc w _) _ = w0
  have HT0 : Hid (Two w x w0) := by rw [← hw0]; exact HT.out
  clear hw0 HT
  generalize hb : w.heap.size = b at *
  have HBZ := Lib.hid hb; clear hb
  have HX0 : Hid (w0.heap[b]? = some (.cells (hvA x) 23 (0, 0))) := by have h := HT0.out.x; rw [HBZ.out] at h; exact h
  have HZ0 : Hid (w0.heap[b + 1]? = some (.cells (Array.replicate 16 (Value.int .u8 0)) 23 (0, 0))) := by have h := HT0.out.z; rw [HBZ.out] at h; exact h
  have HB0 : Hid (Below b w w0) := by have h := HT0.out.b; rw [HBZ.out] at h; exact h
  have hz0 : b + 2 ≤ w0.heap.size := by have h := HT0.out.s; have := HBZ.out; omega
  clear HT0
  go_loopw [5, 6] (fun v i wr => ∃ k : Nat, k ≤ 68 ∧ i = .int .i64 k ∧ Hid (OwnHv wr (b + 2) v ((List.range k).map (endE x leaf))) ∧ Hid (Below (b + 2) w0 wr)) (fun _ i _ => 68 - (intOf i).toNat)
  case atStart => exact ⟨0, by omega, rfl, OwnHv.nil _ _, Below.refl _ _⟩
  case round =>
    obtain ⟨k, hk, rfl, HOW, HBR⟩ := hrel
    have hszr : b + 2 ≤ wr.heap.size := by have := HBR.out.size; omega
    by_cases hlt : k < 68
    · have HXR : Hid (wr.heap[b]? = some (.cells (hvA x) 23 (0, 0))) := (HBR.out.block b (by omega)).trans HX0.out
      have hd1 : decide ((k : Int) < 68) = true := by simp; omega
      go_wp2_with (refine wpList_load_row rfl 23 _ rfl b rfl 23 _ (0, 0) _ HXR.out Tryd.underlying23 rfl (info_h HS.out) ?_)
      refine (rsecret_any x leaf k wr HS.out).mono ?_
      rintro e w5 ⟨rfl, hb5⟩
      have HB5 := Lib.hid hb5; clear hb5
      go_wp2_with fail
      refine (rclimb_any (secB x leaf k) leaf k 0 3 w5 (secB_H16 _ _ _)).mono ?_
      rintro e w6 ⟨rfl, hb6⟩
      have HB6 : Hid (Below wr.heap.size wr w6) := HB5.out.trans (hb6.mono HB5.out.size)
      clear hb6
      have hs6 : b + 2 ≤ w6.heap.size := by have := HB6.out.size; omega
      have HO6 := Lib.hid (HOW.out.below HB6.out)
      have HSN := Lib.hid (range_snocP (endE x leaf) k)
      have HLK : Hid (k = ((List.range k).map (endE x leaf)).length) := by show _ = _; simp
      have HY := Lib.hid (endE_H16 x leaf k)
      have HEE : Hid (climbB (secB x leaf k) leaf k 0 3 = endE x leaf k) := rfl
      rw [HEE.out]
      clear HEE
      generalize endE x leaf k = y at *
      go_wp2_with (first
        | (refine wpList_slice_eqG rfl 25 1 [(0, .tmp 18)] rfl [(0, .agg (hvA y))] rfl _ _ (sliceHv _ y HY.out) ?_; generalize hw7 : World.alloc w6 _ = w7; have hr7 : w7.rangeAt w6.heap.size 0 (y.map (Value.int .u8)) := (by rw [← hw7]; intro j v hv; rw [Nat.zero_add]; exact heap_cellO (heap_alloc_new w6 _) hv); have hb7 : Below w6.heap.size w6 w7 := (by rw [← hw7]; exact below_alloc _ _); have HR7 := Lib.hid hr7; have HB7 := Lib.hid hb7; have HO7 := Lib.hid (HO6.out.below hb7); have hs7 := hb7.size; have hs7b : b + 2 ≤ w7.heap.size := (by omega); clear hw7 hr7 hb7)
        | (at_builtin; refine wpList_append_hv rfl (.tmp 11) (.tmp 19) rfl (b + 2) _ _ k HLK.out rfl HO7.out w6.heap.size y rfl HR7.out HY.out (by omega) hs7b ?_; intro sp8 cap8 w8 HO8 HB8 HG8))
      go_roundw
      case rel => exact ⟨k + 1, by omega, by go_num, by rw [HSN.out]; exact HO8, HBR.out.trans ((HB6.out.mono (by omega)).trans ((HB7.out.mono (by omega)).trans HB8.out))⟩
      case measure => simp [intOf]; omega
    · obtain rfl : k = 68 := by omega
      have hd1 : decide (((68 : Nat) : Int) < 68) = false := by simp
      obtain ⟨sp', cap', rfl⟩ := own_shapeG HOW.out.1
      have HL68 : Hid (((List.range 68).map (endE x leaf)).length = 68) := by show _ = _; simp
      have HHV : Hid (HvsIn wr wr.heap.size sp' 68 cap' ((List.range 68).map (endE x leaf))) := by
        have h := HOW.out
        rw [HL68.out] at h
        exact h.hvs HL68.out
      have HZR : Hid (wr.heap[b + 1]? = some (.cells (Array.replicate 16 (Value.int .u8 0)) 23 (0, 0))) := (HBR.out.block _ (by omega)).trans HZ0.out
      have HBW : Hid (Below b w wr) := HB0.out.trans (HBR.out.mono (by omega))
      rw [HL68.out]
      go_wp2_with fail
      refine (rcombine_any leaf sp' 68 cap' _ wr HHV.out (by omega)).mono ?_
      rintro e w6 ⟨rfl, hb6⟩
      have HZ6 : Hid (w6.heap[b + 1]? = some (.cells (Array.replicate 16 (Value.int .u8 0)) 23 (0, 0))) := (hb6.block _ (by omega)).trans HZR.out
      have HB6 : Hid (Below b w w6) := HBW.out.trans (hb6.mono (by omega))
      have HPE : Hid (comB leaf ((List.range 68).map (endE x leaf)) = pubB x leaf) := rfl
      rw [HPE.out]
      clear hb6
      go_wp2_with (refine wpList_store_row rfl 23 _ _ rfl (b + 1) _ rfl rfl 23 _ HZ6.out (info_h (pubB_H16 _ _)) (size_h (pubB_H16 _ _)) (one_h _) ?_)
      exact bodyPost_ret (results_cell_row (P := Tryd.prog) rfl _ _ (b + 1) 23 _ (0, 0) _ rfl (setRow_heap _ _ _ _ _ _ HZ6.out) Tryd.underlying23 rfl (info_h (pubB_H16 _ _))) rfl ⟨rfl, by rw [HBZ.out]; exact below_setRow HB6.out (by omega) _⟩
end Go.Proofs.YtkeieacmboidoaaDoor
