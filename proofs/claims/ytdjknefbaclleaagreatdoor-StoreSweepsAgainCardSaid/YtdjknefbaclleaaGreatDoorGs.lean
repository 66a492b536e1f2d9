/-
  Stores: the comparison of blobs with the worlds that it leaves, the order by digests, and the stable sort of a list of blobs.
-/
import Derived.Test.YtdjknefbaclleaaGreatDoorStlE
import Derived.Test.YtdjknefbaclleaaGreatDoorGz
import Derived.Test.YtdjknefbaclleaaGreatDoorGi
namespace Go.Proofs.YtdjknefbaclleaaGreatDoor
open Go.RowKit Go.Sort

set_option maxRecDepth 100000 in
set_option maxHeartbeats 400000 in
theorem compareG_any (a b : List Int) (w : World) (ha : D32 a) (hb : D32 b) :
    Calls Tryz.prog 17 #[.agg (dv a), .agg (dv b)] w fun e w' => e = .returned (.int .i64 (cmpD a b)) ∧ ∃ q os', w' = Sort.grow (w.drewN q) os' := by
  have h1 : ∀ i, i < 32 → ((w.alloc (.cells (dv a) 29)).alloc (.cells (dv b) 29)).cell? ⟨w.heap.size, 0 + i, none⟩ = some (.int .u8 (a.getD i 0)) := by
    intro i hi
    have := (World.cell?_of_block (a := ⟨w.heap.size, i, none⟩) (Below.heap_alloc (w.alloc (.cells (dv a) 29)) (.cells (dv b) 29) w.heap.size (by simp)))
    rw [Nat.zero_add, this]
    exact cellB_newG w 29 a i (by rw [ha.1]; exact hi)
  have h2 : ∀ i, i < 32 → ((w.alloc (.cells (dv a) 29)).alloc (.cells (dv b) 29)).cell? ⟨w.heap.size + 1, 0 + i, none⟩ = some (.int .u8 (b.getD i 0)) := by
    intro i hi
    have := cellB_newG (w.alloc (.cells (dv a) 29)) 29 b i (by rw [hb.1]; exact hi)
    rw [World.size_alloc] at this
    rw [Nat.zero_add]; exact this
  have HC := Lib.hid (fun c1 c2 => bcompare_any w.heap.size 0 32 c1 a (w.heap.size + 1) 0 32 c2 b ha.1 hb.1 (((w.alloc (.cells (dv a) 29)).alloc (.cells (dv b) 29)).drew) h1 h2)
  have HG : Hid (∃ q os', ((w.alloc (.cells (dv a) 29)).alloc (.cells (dv b) 29)).drew = Sort.grow (w.drewN q) os') := ⟨1, _, by rw [Sort.alloc_eq_grow, Sort.alloc_eq_grow, Sort.grow_grow]; rfl⟩
  clear h1 h2
  go_enter Tryz.func17, Tryz.ntmps17
  go_wp2_with fail
  go_region_with (go_at_call 37; (with_reducible refine (HC.out _ _).mono ?_); rintro e w' ⟨rfl, rfl⟩)
  all_goals
    go_wp2_with fail
    go_ret
    exact ⟨rfl, HG.out⟩
set_option maxRecDepth 100000 in
set_option maxHeartbeats 400000 in
theorem byDigestG_any (x y : Bl) (w : World) (hx : OkB x) (hy : OkB y) :
    Calls Tryz.prog 52 #[.agg (blL x).toArray, .agg (blL y).toArray] w fun e w' => e = .returned (.int .i64 (cmpD x.d y.d)) ∧ ∃ q os', w' = Sort.grow (w.drewN q) os' := by
  have HIX := Lib.hid (info_d hx); have HIY := Lib.hid (info_d hy)
  have hb2 : BlB ((w.alloc (.cells (blL x).toArray 50)).alloc (.cells (blL y).toArray 50)) w.heap.size x :=
    (BlB.new w x).below (B := w.heap.size + 1) ((Below.refl _ _).alloc (by simp) _) (by omega)
  have hc2 : BlB ((w.alloc (.cells (blL x).toArray 50)).alloc (.cells (blL y).toArray 50)) (w.heap.size + 1) y := by
    have := BlB.new (w.alloc (.cells (blL x).toArray 50)) y
    rwa [World.size_alloc] at this
  have HX := Lib.hid hb2.d; have HY := Lib.hid hc2.d
  have HG : Hid (∀ q os', ∃ q2 os2, Sort.grow ((World.drewN ((w.alloc (.cells (blL x).toArray 50)).alloc (.cells (blL y).toArray 50)) q)) os' = Sort.grow (w.drewN q2) os2) := fun q os' => ⟨q, _, by rw [Sort.alloc_eq_grow, Sort.alloc_eq_grow, Sort.grow_grow, show ∀ (w : World) q os, (Sort.grow w os).drewN q = Sort.grow (w.drewN q) os from fun _ _ _ => rfl, Sort.grow_grow]⟩
  clear hb2 hc2
  have HC := Lib.hid (fun w' => compareG_any x.d y.d w' hx hy)
  clear hx hy
  go_enter Tryz.func52, Tryz.ntmps52
  go_wp2_with (first
    | (refine wpList_load_mid rfl 29 _ rfl w.heap.size 0 rfl _ _ HX.out Tryz.underlying29 rfl HIX.out ?_)
    | (refine wpList_load_mid rfl 29 _ rfl (w.heap.size + 1) 0 rfl _ _ HY.out Tryz.underlying29 rfl HIY.out ?_))
  refine (HC.out _).mono ?_
  rintro e w' ⟨rfl, q, os', rfl⟩
  have HG2 := Lib.hid (HG.out q os')
  go_wp2_with fail
  go_ret
  exact ⟨rfl, HG2.out⟩
theorem byDigest_enters : ∀ args w, (callFunc 52 args).run Tryz.prog w = .ok (.enter 52 args) w := enters_of Tryz.func52 (by kernel_rfl) rfl
/-- blobs with digests of 32 bytes -/
abbrev OBl := {x : Bl // OkB x}
instance : Inhabited OBl := ⟨⟨⟨zed, none, 0, 0, []⟩, D32.zed⟩⟩
def cB (x y : OBl) : Int := cmpD x.1.d y.1.d
theorem ltB (x y : OBl) : ltOf cB x y = dls x.1.d y.1.d := cmpBy_lt _ _ (fun z hz => x.2.2 z hz) (fun z hz => y.2.2 z hz)
theorem cB_swo : SWO (ltOf cB) where
  irrefl x := by rw [ltB]; exact dls_irrefl _
  trans x y z h1 h2 := by rw [ltB] at *; exact dls_trans h1 h2
  ntrans x y z h1 h2 := by
    rw [ltB] at *
    cases h3 : dls x.1.d z.1.d
    · rfl
    · cases h4 : dls y.1.d x.1.d
      · have e := dls_tri h1 h4
        rw [e, h2] at h3; cases h3
      · have := dls_trans h4 h3
        rw [h2] at this; cases this
def encOB (p : OBl × Nat) : List Value := blL p.1.1
theorem aggB (w : World) : (isAgg 50).run Tryz.prog w = .ok true w := by
  simp [isAgg, run_underlying Tryz.underlying50]
def tagB (l : List OBl) : Array (OBl × Nat) := l.zipIdx.toArray
theorem tagB_size (l : List OBl) : (tagB l).size = l.length := by simp [tagB]
theorem tagB_get (l : List OBl) (i : Nat) (hi : i < l.length) : (tagB l)[i]! = (l[i], i) := by
  rw [getElem!_pos _ i (by rw [tagB_size]; exact hi)]; simp [tagB]
end Go.Proofs.YtdjknefbaclleaaGreatDoor

namespace Go.Proofs.YtdjknefbaclleaaGreatDoor
open Go.RowKit Go.Sort

/-- a list as the sort's elements -/
def obl (l : List Bl) (h : ∀ x ∈ l, OkB x) : List OBl := l.pmap (fun x hx => ⟨x, hx⟩) h
theorem obl_len (l : List Bl) (h : ∀ x ∈ l, OkB x) : (obl l h).length = l.length := by simp [obl]
theorem obl_map (l : List Bl) (h : ∀ x ∈ l, OkB x) : (obl l h).map (·.1) = l := by
  unfold obl; rw [List.map_pmap]; simp
theorem obl_get (l : List Bl) (h : ∀ x ∈ l, OkB x) (i : Nat) (hi : i < (obl l h).length) : (obl l h)[i].1 = l[i]'(by rw [obl_len] at hi; exact hi) := by
  simp [obl]
/-- the stable sorted list -/
def SrtB (l m : List Bl) (h : ∀ x ∈ l, OkB x) : Prop := ∃ d' : Array (OBl × Nat), d'.size = l.length ∧ PermIn 0 l.length (tagB (obl l h)) d' ∧ StO (ltOf cB) 0 l.length d' ∧ m = d'.toList.map (·.1.1)
theorem own_parts {w : World} {base g n cap : Nat} {l : List Bl} (h : OwnB w base (.slice (some ⟨g, 0, none⟩) n cap) l) (hn : l.length = n) : ∃ cur, base ≤ g ∧ w.heap[g]? = some (.cells cur 50 (0, 0)) ∧ n ≤ cap ∧ cap ≤ maxLen ∧ cur.size = cap * 33 ∧ cur.toList.take (n * 33) = rowsB l := by
  obtain ⟨_, ⟨e, _⟩ | ⟨g', cap', cur, e, hb, hg, h1, h2, h3, h4⟩⟩ := h.1
  · cases e
  · injection e with e1 e2 e3
    injection e1 with e1; injection e1 with e1
    subst e1 e3
    rw [hn] at h1 h4
    exact ⟨cur, hb, hg, h1, h2, h3, h4⟩
theorem cell_rows {w : World} {g n cap : Nat} {cur : Array Value} {l : List Bl} (hg : w.heap[g]? = some (.cells cur 50 (0, 0))) (h : cur.toList.take (n * 33) = rowsB l) {t : Nat} (ht : t < n * 33) : w.cell? ⟨g, 0 + t, none⟩ = (rowsB l)[t]? := by
  rw [Nat.zero_add, cell_of_row w g t cur _ _ hg, ← h, List.getElem?_take, if_pos ht]; simp
theorem rowB {w : World} {base g n cap : Nat} {l : List Bl} (h : OwnB w base (.slice (some ⟨g, 0, none⟩) n cap) l) (hn : l.length = n) : RowK encOB 33 w g 0 (tagB (obl l h.2)) := by
  obtain ⟨cur, hb, hg, h1, h2, h3, h4⟩ := own_parts h hn
  refine ⟨fun x => blL_length x.1.2, fun x => blL_one x.1.1, fun t ht => ?_, (Array.getElem?_eq_some_iff.1 hg).1⟩
  rw [Sort.size_flatK, tagB_size, obl_len, hn] at ht
  refine ⟨?_, by simp [World.frozen?, hg]⟩
  rw [Sort.get_flatK _ _ _ _ (by rw [tagB_size, obl_len, hn]; exact ht)]
  have hi : t / 33 < (obl l h.2).length := by rw [obl_len, hn]; exact Nat.div_lt_of_lt_mul (by rw [Nat.mul_comm]; exact ht)
  rw [tagB_get _ _ hi]
  rw [cell_rows (cap := cap) hg h4 ht]
  have hi' : t / 33 < l.length := by rw [obl_len] at hi; exact hi
  have hx : l[t / 33]? = some l[t / 33] := List.getElem?_eq_getElem hi'
  have hk := h.2 _ (List.getElem_mem hi')
  have hm : t % 33 < (blL l[t / 33]).length := by rw [blL_length hk]; exact Nat.mod_lt _ (by omega)
  have := flat_atG blL 33 l (fun z hz => blL_length (h.2 z hz)) (t / 33) _ hx (t % 33) _ (List.getElem?_eq_getElem hm)
  rw [show t / 33 * 33 + t % 33 = t by omega] at this
  unfold rowsB
  rw [this]
  show _ = some ((blL ((obl l h.2)[t / 33]).1)[t % 33]!)
  rw [obl_get]
  rw [getElem!_pos (blL l[t / 33]) (t % 33) hm]
theorem block_swk {w w' : World} {g : Nat} {cur : Array Value} {ty : TypeId} {fz : Nat × Nat} {d : Array (OBl × Nat)} (S : SWK encOB 33 w g 0 d w') (hg : w.heap[g]? = some (.cells cur ty fz)) : ∃ cur', w'.heap[g]? = some (.cells cur' ty fz) ∧ cur'.size = cur.size := by
  obtain ⟨m, os, rfl⟩ := S
  have hlt := (Array.getElem?_eq_some_iff.1 hg).1
  refine ⟨Sort.putCells id 0 (Sort.flatK encOB 33 d) cur, ?_, ?_⟩
  · unfold sortWorldK Sort.putRowK
    rw [Sort.heap_grow_old _ _ (by simpa [Sort.putRow, Sort.mapBlock, Sort.ahead] using hlt)]
    show (w.heap.modify g (Sort.onCells (Sort.putCells id 0 (Sort.flatK encOB 33 d))))[g]? = _
    rw [Array.getElem?_modify, if_pos rfl, hg]; rfl
  · simp [Sort.putCells]
theorem own_swk {w w' : World} {base g n cap : Nat} {l : List Bl} {d : Array (OBl × Nat)} (h : OwnB w base (.slice (some ⟨g, 0, none⟩) n cap) l) (hn : l.length = n) (hs : d.size = n) (S : SWK encOB 33 w g 0 d w') : OwnB w' base (.slice (some ⟨g, 0, none⟩) n cap) (d.toList.map (·.1.1)) := by
  have R := rowB h hn
  obtain ⟨cur, hb, hg, h1, h2, h3, h4⟩ := own_parts h hn
  obtain ⟨cur', hg', hsz⟩ := block_swk S hg
  have hH := S.holds R.hblk R.hH (by rw [hs, tagB_size, obl_len, hn])
  have hml : (d.toList.map (·.1.1)).length = n := by simp [hs]
  have hok : ∀ x ∈ d.toList.map (·.1.1), OkB x := fun x hx => by
    obtain ⟨y, _, rfl⟩ := List.mem_map.1 hx; exact y.1.2
  have hrl : (rowsB (d.toList.map (·.1.1))).length = n * 33 := by
    unfold rowsB; rw [flat_lenG blL 33 _ (fun z hz => blL_length (hok z hz)), hml]
  refine ⟨⟨by rw [hrl, hml], .inr ⟨g, cap, cur', by rw [hml], hb, hg', by rw [hml]; exact h1, h2, by rw [hsz, h3], ?_⟩⟩, hok⟩
  rw [hml]
  apply List.ext_getElem?
  intro t
  by_cases ht : t < n * 33
  · rw [List.getElem?_take, if_pos ht]
    have hc := (hH t (by rw [Sort.size_flatK, hs]; exact ht)).1
    rw [Nat.zero_add, cell_of_row w' g t cur' _ _ hg'] at hc
    rw [Array.getElem?_toList, hc, Sort.get_flatK _ _ _ _ (by rw [hs]; exact ht)]
    have hi : t / 33 < d.size := by rw [hs]; exact Nat.div_lt_of_lt_mul (by rw [Nat.mul_comm]; exact ht)
    rw [getElem!_pos d _ hi]
    have hx : (d.toList.map (·.1.1))[t / 33]? = some d[t / 33].1.1 := by simp [hi]
    have hm : t % 33 < (blL d[t / 33].1.1).length := by rw [blL_length d[t / 33].1.2]; exact Nat.mod_lt _ (by omega)
    have := flat_atG blL 33 _ (fun z hz => blL_length (hok z hz)) (t / 33) _ hx (t % 33) _ (List.getElem?_eq_getElem hm)
    rw [show t / 33 * 33 + t % 33 = t by omega] at this
    unfold rowsB
    rw [this]
    show some ((blL d[t / 33].1.1)[t % 33]!) = _
    rw [getElem!_pos (blL d[t / 33].1.1) (t % 33) hm]
  · rw [List.getElem?_take, if_neg ht, List.getElem?_eq_none (by rw [hrl]; omega)]
theorem below_swkB {base g : Nat} {w w' : World} {d : Array (OBl × Nat)} (hS : SWK encOB 33 w g 0 d w') (hg : base ≤ g) (hgw : g < w.heap.size) : Below base w w' := by
  obtain ⟨m, os, rfl⟩ := hS
  unfold sortWorldK Sort.putRowK
  refine ⟨rfl, rfl, rfl, by simp, fun k hk => ?_⟩
  by_cases hkw : k < w.heap.size
  · rw [Sort.heap_grow_old _ _ (by simpa using hkw)]
    have : g ≠ k := by omega
    simp [Sort.putRow, Sort.mapBlock, Sort.ahead, Array.getElem?_modify, this]
  · exact absurd hk (by omega)
theorem grown_swkB {g : Nat} {w w' : World} {d : Array (OBl × Nat)} (hS : SWK encOB 33 w g 0 d w') : w.grownBy w' (some g) := by
  obtain ⟨m, os, rfl⟩ := hS
  unfold sortWorldK Sort.putRowK
  refine ⟨rfl, rfl, rfl, by simp, fun k hk hne => ?_⟩
  rw [Sort.heap_grow_old _ _ (by simpa using hk)]
  have : g ≠ k := fun e => hne (by rw [e])
  simp [Sort.putRow, Sort.mapBlock, Sort.ahead, Array.getElem?_modify, this]
theorem sortB_any (base g n cap : Nat) (l : List Bl) (w : World) (h : OwnB w base (.slice (some ⟨g, 0, none⟩) n cap) l) (hn : l.length = n) (hbd : n ≤ 1000000) :
    Calls Tryz.prog 75 #[.slice (some ⟨g, 0, none⟩) n cap, .func (.func 52) #[] #[]] w fun e w' => e = .returned (.tuple #[]) ∧ ∃ m, SrtB l m h.2 ∧ OwnB w' base (.slice (some ⟨g, 0, none⟩) n cap) m ∧ Below base w w' ∧ w.grownBy w' (some g) := by
  subst hn
  obtain ⟨cur, hb, hg, _⟩ := own_parts h rfl
  have R := rowB h rfl
  have C := StlSortStable encOB cB cB_swo 52 g 0 cap (tagB (obl l h.2)) w byDigest_enters 33 aggB (fun w => sizeB w) (fun m os dk hdk x y => byDigestG_any x.1.1 y.1.1 _ x.1.2 y.1.2) R (by rw [tagB_size, obl_len]; omega) (fun k hk => by rw [tagB_get _ k (by rwa [tagB_size] at hk)])
  have hsz : (tagB (obl l h.2)).size = l.length := by rw [tagB_size, obl_len]
  rw [hsz] at C
  refine C.mono ?_
  rintro e w' ⟨he, d', h1, h2, h3, hS⟩
  exact ⟨he, _, ⟨d', h1, h2, h3, rfl⟩, own_swk h rfl h1 hS, below_swkB hS hb R.hblk, grown_swkB hS⟩
end Go.Proofs.YtdjknefbaclleaaGreatDoor

namespace Go.Proofs.YtdjknefbaclleaaGreatDoor
open Go.RowKit Go.Sort

set_option maxRecDepth 100000 in
set_option maxHeartbeats 400000 in
theorem sameDigest_any (x y : Bl) (w : World) (hx : OkB x) (hy : OkB y) :
    Calls Tryz.prog 77 #[.agg (blL x).toArray, .agg (blL y).toArray] w fun e w' => e = .returned (.bool (decide (x.d = y.d))) ∧ Below w.heap.size w w' := by
  have HIX := Lib.hid (info_d hx); have HIY := Lib.hid (info_d hy)
  have hb2 : BlB ((w.alloc (.cells (blL x).toArray 50)).alloc (.cells (blL y).toArray 50)) w.heap.size x :=
    (BlB.new w x).below (B := w.heap.size + 1) ((Below.refl _ _).alloc (by simp) _) (by omega)
  have hc2 : BlB ((w.alloc (.cells (blL x).toArray 50)).alloc (.cells (blL y).toArray 50)) (w.heap.size + 1) y := by
    have := BlB.new (w.alloc (.cells (blL x).toArray 50)) y
    rwa [World.size_alloc] at this
  have HX := Lib.hid hb2.d; have HY := Lib.hid hc2.d
  have HB := Lib.hid (((Below.refl w.heap.size w).alloc (Nat.le_refl _) (.cells (blL x).toArray 50)).alloc (by simp) (.cells (blL y).toArray 50))
  have he := eqlD x.d y.d hx.1 hy.1
  clear hb2 hc2 hx hy
  go_enter Tryz.func77, Tryz.ntmps77
  go_wp2_with (first
    | (refine wpList_load_mid rfl 29 _ rfl w.heap.size 0 rfl _ _ HX.out Tryz.underlying29 rfl HIX.out ?_)
    | (refine wpList_load_mid rfl 29 _ rfl (w.heap.size + 1) 0 rfl _ _ HY.out Tryz.underlying29 rfl HIY.out ?_))
  go_ret
  exact ⟨rfl, HB.out⟩
/-- what a run of stores leaves in its block -/
theorem setCells_row (g : Nat) (t : TypeId) : ∀ (vs : List Value) (o : Nat) (w : World) (cur : Array Value), w.heap[g]? = some (.cells cur t (0, 0)) → o + vs.length ≤ cur.size →
    ∃ cur', (w.setCells g o vs).heap[g]? = some (.cells cur' t (0, 0)) ∧ cur'.size = cur.size ∧ (∀ j, (j < o ∨ o + vs.length ≤ j) → cur'[j]? = cur[j]?) ∧ (∀ (j : Nat) (v : Value), vs[j]? = some v → cur'[o + j]? = some v) ∧ w.grownBy (w.setCells g o vs) (some g)
  | [], o, w, cur, hg, _ => ⟨cur, hg, rfl, fun _ _ => rfl, fun j v hv => by simp at hv, World.grownBy.refl _ _⟩
  | v :: r, o, w, cur, hg, hs => by
    simp only [List.length_cons] at hs
    have h1 := heap_setCell_same w g o cur t v hg
    obtain ⟨cur', h2, h3, h4, h5, h6⟩ := setCells_row g t r (o + 1) (w.setCell ⟨g, o, none⟩ v) _ h1 (by simp; omega)
    refine ⟨cur', h2, by rw [h3]; simp, fun j hj => ?_, fun j u hu => ?_, ?_⟩
    · simp only [List.length_cons] at hj
      rw [h4 j (by omega)]
      rw [Array.getElem?_setIfInBounds]
      rw [if_neg (by omega)]
    · cases j with
      | zero =>
        have e : v = u := by simpa using hu
        subst e
        rw [Nat.add_zero, h4 o (by omega), Array.getElem?_setIfInBounds, if_pos rfl, if_pos (by omega)]
      | succ j =>
        have := h5 j u (by simpa using hu)
        rwa [show o + (j + 1) = o + 1 + j by omega]
    · have hk : w.grownBy (w.setCell ⟨g, o, none⟩ v) (some g) := ⟨rfl, rfl, rfl, by simp [World.setCell], fun k _ hne => heap_setCell_other w ⟨g, o, none⟩ k v (fun e => hne (by rw [e]))⟩
      exact ⟨h6.os.trans hk.os, h6.tape.trans hk.tape, h6.output.trans hk.output, Nat.le_trans hk.size h6.size, fun k hkk hne => (h6.block k (Nat.lt_of_lt_of_le hkk hk.size) hne).trans (hk.block k hkk hne)⟩
/-- a row's cell -/
theorem rowsB_at {l : List Bl} (h : ∀ x ∈ l, OkB x) {i : Nat} {x : Bl} (hi : l[i]? = some x) {j : Nat} (hj : j < 33) : (rowsB l)[i * 33 + j]? = (blL x)[j]? := by
  have hok := h x (List.mem_of_getElem? hi)
  have hm : j < (blL x).length := by rw [blL_length hok]; exact hj
  unfold rowsB
  rw [flat_atG blL 33 l (fun z hz => blL_length (h z hz)) i x hi j _ (List.getElem?_eq_getElem hm), List.getElem?_eq_getElem hm]
theorem rowsB_len {l : List Bl} (h : ∀ x ∈ l, OkB x) : (rowsB l).length = l.length * 33 := by
  unfold rowsB; exact flat_lenG blL 33 l (fun z hz => blL_length (h z hz))
/-- rows are equal if their elements' cells are -/
theorem take_rows {cur : Array Value} {l : List Bl} {n : Nat} (h : ∀ x ∈ l, OkB x) (hn : l.length = n) (hc : ∀ i x j, l[i]? = some x → j < 33 → cur[i * 33 + j]? = (blL x)[j]?) : cur.toList.take (n * 33) = rowsB l := by
  apply List.ext_getElem?
  intro t
  by_cases ht : t < n * 33
  · have hi : t / 33 < l.length := by rw [hn]; exact Nat.div_lt_of_lt_mul (by rw [Nat.mul_comm]; exact ht)
    have hj : t % 33 < 33 := Nat.mod_lt _ (by omega)
    have h1 := hc (t / 33) _ (t % 33) (List.getElem?_eq_getElem hi) hj
    have h2 := rowsB_at h (List.getElem?_eq_getElem hi) hj
    rw [show t / 33 * 33 + t % 33 = t by omega] at h1 h2
    rw [List.getElem?_take, if_pos ht, Array.getElem?_toList, h1, h2]
  · rw [List.getElem?_take, if_neg ht, List.getElem?_eq_none (by rw [rowsB_len h, hn]; omega)]
theorem own_cell {w : World} {base g n cap : Nat} {l : List Bl} (h : OwnB w base (.slice (some ⟨g, 0, none⟩) n cap) l) (hn : l.length = n) {cur : Array Value} (hg : w.heap[g]? = some (.cells cur 50 (0, 0))) {i : Nat} {x : Bl} (hi : l[i]? = some x) {j : Nat} (hj : j < 33) : cur[i * 33 + j]? = (blL x)[j]? := by
  obtain ⟨cur', _, hg', _, _, _, h4⟩ := own_parts h hn
  rw [hg] at hg'; injection hg' with hg'; injection hg' with e _ _
  subst e
  have hil := (List.getElem?_eq_some_iff.1 hi).1
  have h1 := rowsB_at h.2 hi hj
  rw [← h4, List.getElem?_take, if_pos (by omega), Array.getElem?_toList] at h1
  exact h1
/-- an element laid in -/
theorem own_setB {w : World} {base g n cap : Nat} {l : List Bl} (h : OwnB w base (.slice (some ⟨g, 0, none⟩) n cap) l) (hn : l.length = n) {i : Nat} (hi : i < n) {x : Bl} (hx : OkB x) :
    OwnB (w.setCells g (0 + i * 33) (blL x)) base (.slice (some ⟨g, 0, none⟩) n cap) (l.set i x) ∧ w.grownBy (w.setCells g (0 + i * 33) (blL x)) (some g) := by
  obtain ⟨cur, hb, hg, h1, h2, h3, h4⟩ := own_parts h hn
  have hle : i * 33 + 33 ≤ cap * 33 := by have : (i + 1) * 33 ≤ cap * 33 := Nat.mul_le_mul_right _ (by omega); omega
  rw [Nat.zero_add]
  obtain ⟨cur', c1, c2, c3, c4, c5⟩ := setCells_row g 50 (blL x) (i * 33) w cur hg (by rw [blL_length hx, h3]; exact hle)
  have hok : ∀ y ∈ l.set i x, OkB y := fun y hy => by
    rcases List.mem_or_eq_of_mem_set hy with hy | rfl
    · exact h.2 y hy
    · exact hx
  refine ⟨⟨⟨by rw [rowsB_len hok], .inr ⟨g, cap, cur', by simp [hn], hb, c1, by simpa [hn] using h1, h2, by rw [c2, h3], ?_⟩⟩, hok⟩, c5⟩
  rw [List.length_set, hn]
  refine take_rows hok (by simp [hn]) (fun k y j hk hj => ?_)
  by_cases hki : k = i
  · subst hki
    have e : x = y := by
      rw [List.getElem?_set_self (by rw [hn]; exact hi)] at hk
      injection hk
    subst e
    have hm : j < (blL x).length := by rw [blL_length hx]; exact hj
    rw [c4 j _ (List.getElem?_eq_getElem hm), List.getElem?_eq_getElem hm]
  · rw [List.getElem?_set_ne (by omega)] at hk
    rw [c3 (k * 33 + j) (by rw [blL_length hx]; omega)]
    exact own_cell h hn hg hk hj
/-- a shorter row -/
theorem own_takeB {w : World} {base g n cap : Nat} {l : List Bl} (h : OwnB w base (.slice (some ⟨g, 0, none⟩) n cap) l) (hn : l.length = n) {i : Nat} (hi : i ≤ n) : OwnB w base (.slice (some ⟨g, 0, none⟩) i cap) (l.take i) := by
  obtain ⟨cur, hb, hg, h1, h2, h3, h4⟩ := own_parts h hn
  have hok : ∀ y ∈ l.take i, OkB y := fun y hy => h.2 y (List.mem_of_mem_take hy)
  have hl : (l.take i).length = i := by rw [List.length_take, hn]; omega
  refine ⟨⟨by rw [rowsB_len hok], .inr ⟨g, cap, cur, by rw [hl], hb, hg, by rw [hl]; omega, h2, h3, ?_⟩⟩, hok⟩
  rw [hl]
  refine take_rows hok hl (fun k y j hk hj => ?_)
  have hk' : l[k]? = some y := by
    rw [List.getElem?_take] at hk
    split at hk
    · exact hk
    · cases hk
  exact own_cell h hn hg hk' hj
/-- the list without neighbours of equal digests, up to a place -/
def cptK (l : List Bl) (k : Nat) : List Bl := (List.range k).filterMap fun j => if j = 0 ∨ (l[j]?.map (·.d)) ≠ (l[j - 1]?.map (·.d)) then l[j]? else none
theorem cptK_succ {l : List Bl} {k : Nat} {x y : Bl} (hx : l[k + 1]? = some x) (hy : l[k]? = some y) : cptK l (k + 1 + 1) = cptK l (k + 1) ++ (if x.d = y.d then [] else [x]) := by
  unfold cptK
  rw [List.range_succ, List.filterMap_append]
  congr 1
  by_cases h : x.d = y.d <;> simp [hx, hy, h]
theorem cptK_one {l : List Bl} {x : Bl} (hx : l[0]? = some x) : cptK l 1 = [x] := by simp [cptK, List.range_succ, hx]
theorem cptK_zero (l : List Bl) : cptK l 0 = [] := rfl
/-- as long as no neighbours are equal it is the list itself -/
theorem cptK_take {l : List Bl} : ∀ {k : Nat}, k ≤ l.length → (∀ j x y, j + 1 < k → l[j + 1]? = some x → l[j]? = some y → x.d ≠ y.d) → cptK l k = l.take k
  | 0, _, _ => rfl
  | 1, h, _ => by
    have hx : l[0]? = some l[0] := List.getElem?_eq_getElem (by omega)
    rw [cptK_one hx, List.take_add_one, hx]; simp
  | k + 2, h, hd => by
    have hx : l[k + 1]? = some l[k + 1] := List.getElem?_eq_getElem (by omega)
    have hy : l[k]? = some l[k] := List.getElem?_eq_getElem (by omega)
    rw [cptK_succ hx hy, if_neg (hd k _ _ (by omega) hx hy), cptK_take (k := k + 1) (by omega) (fun j x y hj h1 h2 => hd j x y (by omega) h1 h2), List.take_add_one (i := k + 1), hx]; rfl
theorem cptK_len (l : List Bl) (k : Nat) : (cptK l k).length ≤ k := by
  unfold cptK
  exact Nat.le_trans (List.length_filterMap_le _ _) (by simp)
end Go.Proofs.YtdjknefbaclleaaGreatDoor

namespace Go.Proofs.YtdjknefbaclleaaGreatDoor
open Go.RowKit Go.Sort

set_option maxRecDepth 100000 in
theorem zeroValB (w : World) : (zeroValue 50).run Tryz.prog w = .ok (.agg zB.toArray) w := by
  have h := infoB3
  cases hi : Tryz.prog.info? 50 with
  | none => rw [hi] at h; cases h
  | some i =>
    rw [hi] at h
    have h1 : i.zero = some (.agg zB.toArray) := by injection h with h; injection h
    simp [zeroValue, typeInfo, hi, h1]
set_option maxRecDepth 100000 in
/-- clear(s) -/
theorem run_clearB (w : World) (ty : TypeId) (g o n c : Nat) (hn : 0 < n) (ht : w.there g o (n * 33)) :
    (Builtin.clear_ #[24] ty #[.slice (some ⟨g, o, none⟩) n c]).run Tryz.prog w = .ok (.tuple #[]) (w.setCells g o (Builtin.zeroCells zB.toArray n).toList) := by
  have hsz : (Builtin.zeroCells zB.toArray n).toList.length = n * 33 := by rw [Array.length_toList, zeroCells_size]; rfl
  have hone : ∀ v ∈ (Builtin.zeroCells zB.toArray n).toList, v.oneCell' = true := fun v hv => by
    obtain ⟨i, hi, rfl⟩ := List.getElem_of_mem hv
    rw [Array.getElem_toList]
    simp only [Builtin.zeroCells, Array.getElem_map, Array.getElem_range]
    have hm : ∀ j, j < 33 → (zB.toArray[j]!).oneCell' = true := by decide +kernel
    exact hm _ (Nat.mod_lt _ (by decide))
  have hst := run_storeCells_cells (P := Tryz.prog) g o (Builtin.zeroCells zB.toArray n).toList 0 w (fun j hj => by simpa using (ht j (by rw [hsz] at hj; exact hj)).1) (fun j hj => by simpa using (ht j (by rw [hsz] at hj; exact hj)).2) hone
  simp only [Nat.add_zero] at hst
  obtain ⟨m, rfl⟩ : ∃ m, n = m + 1 := ⟨n - 1, by omega⟩
  have hv := zeroValB w
  have hc : (Value.agg zB.toArray).cells = zB.toArray := rfl
  simp [Builtin.clear_, run_underlying Tryz.underlying24, hv, hc, hst]
theorem wpList_clearB {ops : Array Oper} {rest : List Oper} {o : Oper} {a : Act} {w : World} {Q : Exit → Act → World → Prop} (hgd : o.guard = none) (x : Operand)
    (ho : o.op = .call { callee := .builtin .clear, args := #[x], argTypes := #[24] }) (g of n c : Nat) (hx : a.eval x = .slice (some ⟨g, of, none⟩) n c) (hn : 0 < n) (ht : w.there g of (n * 33))
    (h : wpList Tryz.prog ops Q rest (a.put o.dst (.tuple #[])) (w.setCells g of (Builtin.zeroCells zB.toArray n).toList)) : wpList Tryz.prog ops Q (o :: rest) a w :=
  wpList_plain hgd fun _ hK => by
    have hr := run_clearB w o.type g of n c hn ht
    unfold Oper.wp execOp
    simp only [ho, resolve, invoke, builtin, Sem.run_bind, Sem.run_pure, Result.andThen_ok, List.map_toArray, List.map_cons, List.map_nil, hx, hr]
    exact hK _ _ h
theorem own_clearB {w : World} {base g n cap : Nat} {l : List Bl} (h : OwnB w base (.slice (some ⟨g, 0, none⟩) n cap) l) (hn : l.length = n) {i : Nat} (hi : i ≤ n) {vs : List Value} (hv : vs.length = (n - i) * 33) :
    OwnB (w.setCells g (0 + i * 33) vs) base (.slice (some ⟨g, 0, none⟩) i cap) (l.take i) ∧ w.grownBy (w.setCells g (0 + i * 33) vs) (some g) := by
  obtain ⟨cur, hb, hg, h1, h2, h3, h4⟩ := own_parts h hn
  have hle : i * 33 + (n - i) * 33 ≤ cap * 33 := by rw [← Nat.add_mul]; exact Nat.mul_le_mul_right _ (by omega)
  rw [Nat.zero_add]
  obtain ⟨cur', c1, c2, c3, _, c5⟩ := setCells_row g 50 vs (i * 33) w cur hg (by rw [hv, h3]; exact hle)
  have hok : ∀ y ∈ l.take i, OkB y := fun y hy => h.2 y (List.mem_of_mem_take hy)
  have hl : (l.take i).length = i := by rw [List.length_take, hn]; omega
  refine ⟨⟨⟨by rw [rowsB_len hok], .inr ⟨g, cap, cur', by rw [hl], hb, c1, by rw [hl]; omega, h2, by rw [c2, h3], ?_⟩⟩, hok⟩, c5⟩
  rw [hl]
  refine take_rows hok hl (fun k y j hk hj => ?_)
  have hki : k < i := by have := (List.getElem?_eq_some_iff.1 hk).1; omega
  have hk' : l[k]? = some y := by rw [List.getElem?_take, if_pos hki] at hk; exact hk
  have hlt : (k + 1) * 33 ≤ i * 33 := Nat.mul_le_mul_right _ (by omega)
  rw [c3 (k * 33 + j) (by omega)]
  exact own_cell h hn hg hk' hj
theorem own_there {w : World} {base g n cap : Nat} {l : List Bl} (h : OwnB w base (.slice (some ⟨g, 0, none⟩) n cap) l) (hn : l.length = n) {o m : Nat} (hm : o + m ≤ n * 33) : w.there g o m := by
  obtain ⟨cur, hb, hg, h1, h2, h3, h4⟩ := own_parts h hn
  have : n * 33 ≤ cap * 33 := Nat.mul_le_mul_right _ h1
  intro j hj
  refine ⟨?_, frozen_of_row w g _ _ _ hg⟩
  rw [cell_of_row w g _ _ _ _ hg, Array.getElem?_eq_getElem (by omega)]; rfl
theorem own_rng {w : World} {base g n cap : Nat} {l : List Bl} (h : OwnB w base (.slice (some ⟨g, 0, none⟩) n cap) l) (hn : l.length = n) {i : Nat} {x : Bl} (hi : l[i]? = some x) : w.rangeAt g (i * 33) (blL x) := by
  obtain ⟨cur, hb, hg, h1, h2, h3, h4⟩ := own_parts h hn
  intro j v hv
  have hj : j < 33 := by have := (List.getElem?_eq_some_iff.1 hv).1; rwa [blL_length (h.2 x (List.mem_of_getElem? hi))] at this
  show w.cell? ⟨g, i * 33 + j, none⟩ = some v
  rw [cell_of_row w g _ _ _ _ hg, own_cell h hn hg hi hj, hv]
set_option maxRecDepth 100000 in
set_option maxHeartbeats 4000000 in
theorem compactB_any (base g n cap : Nat) (l : List Bl) (w : World) (h : OwnB w base (.slice (some ⟨g, 0, none⟩) n cap) l) (hn : l.length = n) (hbd : n ≤ 1000000) :
    Calls Tryz.prog 76 #[.slice (some ⟨g, 0, none⟩) n cap, .func (.func 77) #[] #[]] w fun e w' => ∃ m, e = .returned (.slice (some ⟨g, 0, none⟩) m cap) ∧ m = (cptK l n).length ∧ OwnB w' base (.slice (some ⟨g, 0, none⟩) m cap) (cptK l n) ∧ w.grownBy w' (some g) := by
  have HO := Lib.hid h; have HN := Lib.hid hn
  obtain ⟨_, hgb, hgw, hnc, _⟩ := own_parts h hn
  have hgl := (Array.getElem?_eq_some_iff.1 hgw).1
  clear h hn hgw
  by_cases h2 : n < 2
  · have hd : decide ((n : Int) < 2) = true := by simp; omega
    have HC := Lib.hid (show cptK l n = l by rw [cptK_take (by rw [HN.out]; exact Nat.le_refl _) (fun j x y hj => by omega), List.take_of_length_le (by rw [HN.out]; exact Nat.le_refl _)])
    go_enter Tryz.func76, Tryz.ntmps76
    go_wp2_with fail
    go_ret
    exact ⟨n, rfl, by rw [HC.out, HN.out], by rw [HC.out]; exact HO.out, World.grownBy.refl _ _⟩
  · have hd : decide ((n : Int) < 2) = false := by simp; omega
    go_enter Tryz.func76, Tryz.ntmps76
    go_wp2_with fail
    go_loopw [5] (fun i wr => ∃ k : Nat, i = .int .i64 k ∧ 1 ≤ k ∧ k ≤ n ∧ Hid ((∀ j x y, j + 1 < k → l[j + 1]? = some x → l[j]? = some y → x.d ≠ y.d) ∧ Below w.heap.size w wr)) (fun i _ => n - (intOf i).toNat)
    case atStart => exact ⟨1, rfl, Nat.le_refl _, by omega, fun j x y hj => by omega, Below.refl _ _⟩
    case round =>
      obtain ⟨k, rfl, hk1, hkn, H⟩ := hrel
      have HND := Lib.hid H.out.1; have HBE := Lib.hid H.out.2
      clear H
      by_cases hlt : k < n
      · have hd : decide ((k : Int) < (n : Int)) = true := by simp; omega
        obtain ⟨j, hj⟩ : ∃ j, k = j + 1 := ⟨k - 1, by omega⟩
        obtain ⟨x, hx⟩ : ∃ x, l[k]? = some x := ⟨l[k]'(by have := HN.out; omega), List.getElem?_eq_getElem _⟩
        obtain ⟨y, hy⟩ : ∃ y, l[j]? = some y := ⟨l[j]'(by have := HN.out; omega), List.getElem?_eq_getElem _⟩
        have HX := Lib.hid hx; have HY := Lib.hid hy; have HJ := Lib.hid hj
        have HOX := Lib.hid (HO.out.2 x (List.mem_of_getElem? hx)); have HOY := Lib.hid (HO.out.2 y (List.mem_of_getElem? hy))
        have HIX := Lib.hid (info_b HOX.out); have HIY := Lib.hid (info_b HOY.out)
        have HXR := Lib.hid (own_rng (HO.out.below HBE.out.drew) HN.out hx)
        have HYR := Lib.hid (own_rng (HO.out.below HBE.out.drew) HN.out hy)
        have HGL := Lib.hid (Nat.lt_of_lt_of_le hgl HBE.out.size)
        have HKEEP := Lib.hid (fun (w' : World) (hb : Below wr.heap.size wr w') => And.intro (range_belowG (w' := w') HXR.out (B := wr.heap.size) (by exact ⟨hb.os, hb.tape, hb.output, hb.size, hb.block⟩) HGL.out) (range_belowG (w' := w') HYR.out (B := wr.heap.size) (by exact ⟨hb.os, hb.tape, hb.output, hb.size, hb.block⟩) HGL.out))
        obtain ⟨c, hc⟩ : ∃ c, decide (x.d = y.d) = c := ⟨_, rfl⟩
        have hCC := fun w' => sameDigest_any x y w' HOX.out HOY.out
        simp only [hc] at hCC
        have p1 : (0 : Int) ≤ (k : Int) := by omega
        have p2 : (k : Int) < (n : Int) := by omega
        have p3 : (k : Int) - 1 = (j : Int) := by omega
        have p5 : (0 : Int) ≤ (j : Int) := by omega
        have p6 : (j : Int) < (n : Int) := by omega
        have q1 : IntKind.i64.wrap (j : Int) = (j : Int) := IntWalk.i64_in _ (by omega)
        have q2 : IntKind.i64.wrap (k : Int) = (k : Int) := IntWalk.i64_in _ (by omega)
        have q3 : IntKind.i64.wrap ((k : Int) - 1) = (j : Int) := by rw [p3]; exact q1
        clear hx hy hj
        cases c
        · have HNE := Lib.hid (of_decide_eq_false hc)
          clear hc
          go_wp2_with fail
          refine wp_region_held_drew (S := fun w' => w'.rangeAt g (k * 33) (blL x) ∧ w'.rangeAt g (j * 33) (blL y)) (by kernel_rfl) ⟨HXR.out, HYR.out⟩ (fun hHeld => ?_)
          refine wpAnyH_take (i := 0) (oi := _) (v := ?v0n23) rfl (by kernel_rfl) (by kernel_rfl) (by kernel_rfl) (fun _ _ _ h => h) (Or.inl ⟨by rfl, ?hy0n23⟩) (by assumption) ?rest0n23
          case hy0n23 =>
            intro w' hSw
            go_simp
            try with_reducible rfl
          try simp only [Act.put, List.getElem_toArray, List.getElem_cons_succ, List.getElem_cons_zero, List.setIfInBounds_toArray, List.set_cons_zero, List.set_cons_succ]
          refine wpAnyH_take (i := 1) (oi := _) (v := ?v1n24) rfl (by kernel_rfl) (by kernel_rfl) (by kernel_rfl) (fun _ _ _ h => h) (Or.inl ⟨by rfl, ?hy1n24⟩) (by assumption) ?rest1n24
          case hy1n24 =>
            intro w' hSw
            go_simp
            try with_reducible rfl
          try simp only [Act.put, List.getElem_toArray, List.getElem_cons_succ, List.getElem_cons_zero, List.setIfInBounds_toArray, List.set_cons_zero, List.set_cons_succ]
          refine wpAnyH_take (i := 2) (oi := _) (v := ?v2n25) rfl (by kernel_rfl) (by kernel_rfl) (by kernel_rfl) (fun _ _ _ h => h) (Or.inl ⟨by rfl, ?hy2n25⟩) (by assumption) ?rest2n25
          case hy2n25 =>
            intro w' hSw
            go_simp
            try with_reducible rfl
          try simp only [Act.put, List.getElem_toArray, List.getElem_cons_succ, List.getElem_cons_zero, List.setIfInBounds_toArray, List.set_cons_zero, List.set_cons_succ]
          refine wpAnyH_take (i := 3) (oi := _) (v := ?v3n26) rfl (by kernel_rfl) (by kernel_rfl) (by kernel_rfl) (fun _ _ _ h => h) (Or.inl ⟨by rfl, ?hy3n26⟩) (by assumption) ?rest3n26
          case hy3n26 =>
            intro w' hSw
            go_simp
            try with_reducible rfl
          try simp only [Act.put, List.getElem_toArray, List.getElem_cons_succ, List.getElem_cons_zero, List.setIfInBounds_toArray, List.set_cons_zero, List.set_cons_succ]
          refine' wpAnyH_take (i := 4) (oi := _) (v := _) rfl (by kernel_rfl) (by kernel_rfl) (by kernel_rfl) (fun _ _ _ h => h) (yieldsIf_load_mid (by rfl) _ _ rfl _ _ rfl _ _ ?hS4n27 Tryz.underlying50 rfl HIX.out) (by assumption) ?rest4n27
          case hS4n27 =>
            intro w' hSw
            exact hSw.1
          try simp only [Act.put, List.getElem_toArray, List.getElem_cons_succ, List.getElem_cons_zero, List.setIfInBounds_toArray, List.set_cons_zero, List.set_cons_succ]
          refine wpAnyH_take (i := 5) (oi := _) (v := ?v5n28) rfl (by kernel_rfl) (by kernel_rfl) (by kernel_rfl) (fun _ _ _ h => h) (Or.inl ⟨by rfl, ?hy5n28⟩) (by assumption) ?rest5n28
          case hy5n28 =>
            intro w' hSw
            go_simp
            try with_reducible rfl
          try simp only [Act.put, List.getElem_toArray, List.getElem_cons_succ, List.getElem_cons_zero, List.setIfInBounds_toArray, List.set_cons_zero, List.set_cons_succ]
          refine wpAnyH_take (i := 6) (oi := _) (v := ?v6n29) rfl (by kernel_rfl) (by kernel_rfl) (by kernel_rfl) (fun _ _ _ h => h) (Or.inl ⟨by rfl, ?hy6n29⟩) (by assumption) ?rest6n29
          case hy6n29 =>
            intro w' hSw
            go_simp
            try with_reducible rfl
          try simp only [Act.put, List.getElem_toArray, List.getElem_cons_succ, List.getElem_cons_zero, List.setIfInBounds_toArray, List.set_cons_zero, List.set_cons_succ]
          refine wpAnyH_take (i := 7) (oi := _) (v := ?v7n30) rfl (by kernel_rfl) (by kernel_rfl) (by kernel_rfl) (fun _ _ _ h => h) (Or.inl ⟨by rfl, ?hy7n30⟩) (by assumption) ?rest7n30
          case hy7n30 =>
            intro w' hSw
            go_simp
            try with_reducible rfl
          try simp only [Act.put, List.getElem_toArray, List.getElem_cons_succ, List.getElem_cons_zero, List.setIfInBounds_toArray, List.set_cons_zero, List.set_cons_succ]
          refine wpAnyH_take (i := 8) (oi := _) (v := ?v8n31) rfl (by kernel_rfl) (by kernel_rfl) (by kernel_rfl) (fun _ _ _ h => h) (Or.inl ⟨by rfl, ?hy8n31⟩) (by assumption) ?rest8n31
          case hy8n31 =>
            intro w' hSw
            go_simp
            try with_reducible rfl
          try simp only [Act.put, List.getElem_toArray, List.getElem_cons_succ, List.getElem_cons_zero, List.setIfInBounds_toArray, List.set_cons_zero, List.set_cons_succ]
          refine' wpAnyH_take (i := 9) (oi := _) (v := _) rfl (by kernel_rfl) (by kernel_rfl) (by kernel_rfl) (fun _ _ _ h => h) (yieldsIf_load_mid (by rfl) _ _ rfl _ _ rfl _ _ ?hS9n32 Tryz.underlying50 rfl HIY.out) (by assumption) ?rest9n32
          case hS9n32 =>
            intro w' hSw
            exact hSw.2
          try simp only [Act.put, List.getElem_toArray, List.getElem_cons_succ, List.getElem_cons_zero, List.setIfInBounds_toArray, List.set_cons_zero, List.set_cons_succ]
          refine wpAnyH_ready (rs := [10]) (by kernel_rfl) (by simp) (AllReadyH.cons (o := _) rfl (fun K hK => ?_) AllReadyH.nil)
          go_simp
          with_reducible refine (hCC _).mono ?_
          rintro e w3 ⟨rfl, hb3⟩
          have HB3 := Lib.hid (((Below.refl _ wr).drew).trans hb3)
          go_wp2_with fail
          refine hK.out _ _ (HKEEP.out _ (((Below.refl _ wr).drew).trans hb3)) (fun hHeld => ?_)
          clear hK K
          try simp only [Act.put, List.getElem_toArray, List.getElem_cons_succ, List.getElem_cons_zero, List.setIfInBounds_toArray, List.set_cons_zero, List.set_cons_succ]
          refine wpAnyH_done (by kernel_rfl) ?_ _
          clear hHeld
          go_wp2_with fail
          have HB9 := Lib.hid (HBE.out.trans (HB3.out.mono HBE.out.size))
          go_roundw
          case rel =>
            refine ⟨k + 1, by go_num, by omega, by omega, fun i u v hi hu hv => ?_, HB9.out⟩
            by_cases hik : i + 1 < k
            · exact HND.out i u v hik hu hv
            · have e : i = j := by have := HJ.out; omega
              subst e
              rw [← HJ.out, HX.out] at hu; rw [HY.out] at hv
              injection hu with hu; injection hv with hv
              rw [← hu, ← hv]; exact HNE.out
          case measure => simp [intOf]; omega
        · have HEQ := Lib.hid (of_decide_eq_true hc)
          clear hc
          go_wp2_with fail
          refine wp_region_held_drew (S := fun w' => w'.rangeAt g (k * 33) (blL x) ∧ w'.rangeAt g (j * 33) (blL y)) (by kernel_rfl) ⟨HXR.out, HYR.out⟩ (fun hHeld => ?_)
          refine wpAnyH_take (i := 0) (oi := _) (v := ?v0n33) rfl (by kernel_rfl) (by kernel_rfl) (by kernel_rfl) (fun _ _ _ h => h) (Or.inl ⟨by rfl, ?hy0n33⟩) (by assumption) ?rest0n33
          case hy0n33 =>
            intro w' hSw
            go_simp
            try with_reducible rfl
          try simp only [Act.put, List.getElem_toArray, List.getElem_cons_succ, List.getElem_cons_zero, List.setIfInBounds_toArray, List.set_cons_zero, List.set_cons_succ]
          refine wpAnyH_take (i := 1) (oi := _) (v := ?v1n34) rfl (by kernel_rfl) (by kernel_rfl) (by kernel_rfl) (fun _ _ _ h => h) (Or.inl ⟨by rfl, ?hy1n34⟩) (by assumption) ?rest1n34
          case hy1n34 =>
            intro w' hSw
            go_simp
            try with_reducible rfl
          try simp only [Act.put, List.getElem_toArray, List.getElem_cons_succ, List.getElem_cons_zero, List.setIfInBounds_toArray, List.set_cons_zero, List.set_cons_succ]
          refine wpAnyH_take (i := 2) (oi := _) (v := ?v2n35) rfl (by kernel_rfl) (by kernel_rfl) (by kernel_rfl) (fun _ _ _ h => h) (Or.inl ⟨by rfl, ?hy2n35⟩) (by assumption) ?rest2n35
          case hy2n35 =>
            intro w' hSw
            go_simp
            try with_reducible rfl
          try simp only [Act.put, List.getElem_toArray, List.getElem_cons_succ, List.getElem_cons_zero, List.setIfInBounds_toArray, List.set_cons_zero, List.set_cons_succ]
          refine wpAnyH_take (i := 3) (oi := _) (v := ?v3n36) rfl (by kernel_rfl) (by kernel_rfl) (by kernel_rfl) (fun _ _ _ h => h) (Or.inl ⟨by rfl, ?hy3n36⟩) (by assumption) ?rest3n36
          case hy3n36 =>
            intro w' hSw
            go_simp
            try with_reducible rfl
          try simp only [Act.put, List.getElem_toArray, List.getElem_cons_succ, List.getElem_cons_zero, List.setIfInBounds_toArray, List.set_cons_zero, List.set_cons_succ]
          refine' wpAnyH_take (i := 4) (oi := _) (v := _) rfl (by kernel_rfl) (by kernel_rfl) (by kernel_rfl) (fun _ _ _ h => h) (yieldsIf_load_mid (by rfl) _ _ rfl _ _ rfl _ _ ?hS4n37 Tryz.underlying50 rfl HIX.out) (by assumption) ?rest4n37
          case hS4n37 =>
            intro w' hSw
            exact hSw.1
          try simp only [Act.put, List.getElem_toArray, List.getElem_cons_succ, List.getElem_cons_zero, List.setIfInBounds_toArray, List.set_cons_zero, List.set_cons_succ]
          refine wpAnyH_take (i := 5) (oi := _) (v := ?v5n38) rfl (by kernel_rfl) (by kernel_rfl) (by kernel_rfl) (fun _ _ _ h => h) (Or.inl ⟨by rfl, ?hy5n38⟩) (by assumption) ?rest5n38
          case hy5n38 =>
            intro w' hSw
            go_simp
            try with_reducible rfl
          try simp only [Act.put, List.getElem_toArray, List.getElem_cons_succ, List.getElem_cons_zero, List.setIfInBounds_toArray, List.set_cons_zero, List.set_cons_succ]
          refine wpAnyH_take (i := 6) (oi := _) (v := ?v6n39) rfl (by kernel_rfl) (by kernel_rfl) (by kernel_rfl) (fun _ _ _ h => h) (Or.inl ⟨by rfl, ?hy6n39⟩) (by assumption) ?rest6n39
          case hy6n39 =>
            intro w' hSw
            go_simp
            try with_reducible rfl
          try simp only [Act.put, List.getElem_toArray, List.getElem_cons_succ, List.getElem_cons_zero, List.setIfInBounds_toArray, List.set_cons_zero, List.set_cons_succ]
          refine wpAnyH_take (i := 7) (oi := _) (v := ?v7n40) rfl (by kernel_rfl) (by kernel_rfl) (by kernel_rfl) (fun _ _ _ h => h) (Or.inl ⟨by rfl, ?hy7n40⟩) (by assumption) ?rest7n40
          case hy7n40 =>
            intro w' hSw
            go_simp
            try with_reducible rfl
          try simp only [Act.put, List.getElem_toArray, List.getElem_cons_succ, List.getElem_cons_zero, List.setIfInBounds_toArray, List.set_cons_zero, List.set_cons_succ]
          refine wpAnyH_take (i := 8) (oi := _) (v := ?v8n41) rfl (by kernel_rfl) (by kernel_rfl) (by kernel_rfl) (fun _ _ _ h => h) (Or.inl ⟨by rfl, ?hy8n41⟩) (by assumption) ?rest8n41
          case hy8n41 =>
            intro w' hSw
            go_simp
            try with_reducible rfl
          try simp only [Act.put, List.getElem_toArray, List.getElem_cons_succ, List.getElem_cons_zero, List.setIfInBounds_toArray, List.set_cons_zero, List.set_cons_succ]
          refine' wpAnyH_take (i := 9) (oi := _) (v := _) rfl (by kernel_rfl) (by kernel_rfl) (by kernel_rfl) (fun _ _ _ h => h) (yieldsIf_load_mid (by rfl) _ _ rfl _ _ rfl _ _ ?hS9n42 Tryz.underlying50 rfl HIY.out) (by assumption) ?rest9n42
          case hS9n42 =>
            intro w' hSw
            exact hSw.2
          try simp only [Act.put, List.getElem_toArray, List.getElem_cons_succ, List.getElem_cons_zero, List.setIfInBounds_toArray, List.set_cons_zero, List.set_cons_succ]
          refine wpAnyH_ready (rs := [10]) (by kernel_rfl) (by simp) (AllReadyH.cons (o := _) rfl (fun K hK => ?_) AllReadyH.nil)
          go_simp
          with_reducible refine (hCC _).mono ?_
          rintro e w3 ⟨rfl, hb3⟩
          have HB3 := Lib.hid (((Below.refl _ wr).drew).trans hb3)
          go_wp2_with fail
          refine hK.out _ _ (HKEEP.out _ (((Below.refl _ wr).drew).trans hb3)) (fun hHeld => ?_)
          clear hK K
          try simp only [Act.put, List.getElem_toArray, List.getElem_cons_succ, List.getElem_cons_zero, List.setIfInBounds_toArray, List.set_cons_zero, List.set_cons_succ]
          refine wpAnyH_done (by kernel_rfl) ?_ _
          clear hHeld
          have hck : ¬ cap = k := by omega
          have hck2 : ¬ k = cap := by omega
          have hkc : k ≤ cap := by omega
          have hkn' : k ≤ n := hkn
          go_wp2_with fail
          have HB9 := Lib.hid (HBE.out.trans (HB3.out.mono HBE.out.size))
          have HC0 := Lib.hid (show cptK l (k + 1) = l.take k by
            have h1 := HX.out; have h2 := HY.out
            rw [HJ.out] at h1 ⊢
            rw [cptK_succ h1 h2, if_pos HEQ.out, List.append_nil, cptK_take (by have := HN.out; have := HJ.out; omega) (fun i u v hi hu hv => HND.out i u v (by have := HJ.out; omega) hu hv)])
          have HLK := Lib.hid (show (l.take k).length = k by rw [List.length_take, HN.out]; omega)
          clear hck2 p1 p2 p3 p5 p6 q1 q2 q3 hCC hd
          go_loopw [5, 7] (fun v5 v7 wr => ∃ (iw kk : Nat), v5 = .int .i64 iw ∧ v7 = .int .i64 kk ∧ 1 ≤ kk ∧ kk ≤ n - k ∧ iw + 1 ≤ k + kk ∧ Hid (iw = (cptK l (k + kk)).length ∧ OwnB wr base (.slice (some ⟨g, 0, none⟩) n cap) (cptK l (k + kk) ++ l.drop iw) ∧ w.grownBy wr (some g))) (fun _ v7 _ => (n - k) - (intOf v7).toNat)
          case atStart => exact ⟨k, 1, rfl, rfl, Nat.le_refl _, by omega, Nat.le_refl _, by rw [HC0.out, HLK.out], by rw [HC0.out, List.take_append_drop]; exact HO.out.below HB9.out, ⟨HB9.out.os, HB9.out.tape, HB9.out.output, HB9.out.size, fun i hi _ => HB9.out.block i hi⟩⟩
          case round =>
            clear HB9 HC0 HLK HB3 HKEEP HXR HYR HX HY HEQ HOX HOY HIX HIY
            obtain ⟨iw, kk, rfl, rfl, hk1', hkk, hiw, H⟩ := hrel
            have HIW := Lib.hid H.out.1; have HO2 := Lib.hid H.out.2.1; have HG2 := Lib.hid H.out.2.2
            clear H
            have HML := Lib.hid (show (cptK l (k + kk) ++ l.drop iw).length = n by rw [List.length_append, ← HIW.out, List.length_drop, HN.out]; omega)
            by_cases hlt2 : kk < n - k
            · have hd : decide ((kk : Int) < ((n - k : Nat) : Int)) = true := by simp; omega
              obtain ⟨jj, hjj⟩ : ∃ jj, kk = jj + 1 := ⟨kk - 1, by omega⟩
              obtain ⟨x, hx⟩ : ∃ x, l[k + jj + 1]? = some x := ⟨l[k + jj + 1]'(by have := HN.out; omega), List.getElem?_eq_getElem _⟩
              obtain ⟨y, hy⟩ : ∃ y, l[k + jj]? = some y := ⟨l[k + jj]'(by have := HN.out; omega), List.getElem?_eq_getElem _⟩
              have HXM := Lib.hid (show (cptK l (k + kk) ++ l.drop iw)[k + jj + 1]? = some x by
                rw [List.getElem?_append_right (by rw [← HIW.out]; omega), ← HIW.out, List.getElem?_drop, show iw + (k + jj + 1 - iw) = k + jj + 1 by omega]; exact hx)
              have HYM := Lib.hid (show (cptK l (k + kk) ++ l.drop iw)[k + jj]? = some y by
                rw [List.getElem?_append_right (by rw [← HIW.out]; omega), ← HIW.out, List.getElem?_drop, show iw + (k + jj - iw) = k + jj by omega]; exact hy)
              have HOX := Lib.hid (HO.out.2 x (List.mem_of_getElem? hx)); have HOY := Lib.hid (HO.out.2 y (List.mem_of_getElem? hy))
              have HIX := Lib.hid (info_b HOX.out); have HIY := Lib.hid (info_b HOY.out)
              have HXR := Lib.hid (show wr.drew.rangeAt g (k * 33 + kk * 33) (blL x) by
                have := own_rng (HO2.out.below (Below.refl wr.heap.size wr).drew) HML.out HXM.out
                rwa [show (k + jj + 1) * 33 = k * 33 + kk * 33 by omega] at this)
              have HYR := Lib.hid (show wr.drew.rangeAt g (k * 33 + jj * 33) (blL y) by
                have := own_rng (HO2.out.below (Below.refl wr.heap.size wr).drew) HML.out HYM.out
                rwa [show (k + jj) * 33 = k * 33 + jj * 33 by omega] at this)
              have HGL := Lib.hid (Nat.lt_of_lt_of_le hgl HG2.out.size)
              have HKEEP := Lib.hid (fun (w' : World) (hb : Below wr.heap.size wr w') => And.intro (range_belowG (w' := w') HXR.out (B := wr.heap.size) (by exact ⟨hb.os, hb.tape, hb.output, hb.size, hb.block⟩) HGL.out) (range_belowG (w' := w') HYR.out (B := wr.heap.size) (by exact ⟨hb.os, hb.tape, hb.output, hb.size, hb.block⟩) HGL.out))
              obtain ⟨c, hc⟩ : ∃ c, decide (x.d = y.d) = c := ⟨_, rfl⟩
              have hCC := fun w' => sameDigest_any x y w' HOX.out HOY.out
              simp only [hc] at hCC
              have HSC := Lib.hid (show cptK l (k + (kk + 1)) = cptK l (k + kk) ++ (if x.d = y.d then [] else [x]) by
                have := cptK_succ hx hy
                rwa [show k + jj + 1 + 1 = k + (kk + 1) by omega, show k + jj + 1 = k + kk by omega] at this)
              have HJJ := Lib.hid hjj
              have HXL := Lib.hid hx
              have p1 : (0 : Int) ≤ (kk : Int) := by omega
              have p2 : (kk : Int) < ((n - k : Nat) : Int) := by omega
              have p3 : (kk : Int) - 1 = (jj : Int) := by omega
              have p5 : (0 : Int) ≤ (jj : Int) := by omega
              have p6 : (jj : Int) < ((n - k : Nat) : Int) := by omega
              have q1 : IntKind.i64.wrap (jj : Int) = (jj : Int) := IntWalk.i64_in _ (by omega)
              have q2 : IntKind.i64.wrap (kk : Int) = (kk : Int) := IntWalk.i64_in _ (by omega)
              have q3 : IntKind.i64.wrap ((kk : Int) - 1) = (jj : Int) := by rw [p3]; exact q1
              clear hx hy hjj
              cases c
              · have HNE := Lib.hid (of_decide_eq_false hc)
                clear hc
                go_wp2_with fail
                refine wp_region_held_drew (S := fun w' => w'.rangeAt g (k * 33 + kk * 33) (blL x) ∧ w'.rangeAt g (k * 33 + jj * 33) (blL y)) (by kernel_rfl) ⟨HXR.out, HYR.out⟩ (fun hHeld => ?_)
                refine wpAnyH_take (i := 0) (oi := _) (v := ?v0n1) rfl (by kernel_rfl) (by kernel_rfl) (by kernel_rfl) (fun _ _ _ h => h) (Or.inl ⟨by rfl, ?hy0n1⟩) (by assumption) ?rest0n1
                case hy0n1 =>
                  intro w' hSw
                  go_simp
                  try with_reducible rfl
                try simp only [Act.put, List.getElem_toArray, List.getElem_cons_succ, List.getElem_cons_zero, List.setIfInBounds_toArray, List.set_cons_zero, List.set_cons_succ]
                refine wpAnyH_take (i := 1) (oi := _) (v := ?v1n2) rfl (by kernel_rfl) (by kernel_rfl) (by kernel_rfl) (fun _ _ _ h => h) (Or.inl ⟨by rfl, ?hy1n2⟩) (by assumption) ?rest1n2
                case hy1n2 =>
                  intro w' hSw
                  go_simp
                  try with_reducible rfl
                try simp only [Act.put, List.getElem_toArray, List.getElem_cons_succ, List.getElem_cons_zero, List.setIfInBounds_toArray, List.set_cons_zero, List.set_cons_succ]
                refine wpAnyH_take (i := 2) (oi := _) (v := ?v2n3) rfl (by kernel_rfl) (by kernel_rfl) (by kernel_rfl) (fun _ _ _ h => h) (Or.inl ⟨by rfl, ?hy2n3⟩) (by assumption) ?rest2n3
                case hy2n3 =>
                  intro w' hSw
                  go_simp
                  try with_reducible rfl
                try simp only [Act.put, List.getElem_toArray, List.getElem_cons_succ, List.getElem_cons_zero, List.setIfInBounds_toArray, List.set_cons_zero, List.set_cons_succ]
                refine wpAnyH_take (i := 3) (oi := _) (v := ?v3n4) rfl (by kernel_rfl) (by kernel_rfl) (by kernel_rfl) (fun _ _ _ h => h) (Or.inl ⟨by rfl, ?hy3n4⟩) (by assumption) ?rest3n4
                case hy3n4 =>
                  intro w' hSw
                  go_simp
                  try with_reducible rfl
                try simp only [Act.put, List.getElem_toArray, List.getElem_cons_succ, List.getElem_cons_zero, List.setIfInBounds_toArray, List.set_cons_zero, List.set_cons_succ]
                refine' wpAnyH_take (i := 4) (oi := _) (v := _) rfl (by kernel_rfl) (by kernel_rfl) (by kernel_rfl) (fun _ _ _ h => h) (yieldsIf_load_mid (by rfl) _ _ rfl _ _ rfl _ _ ?hS4n5 Tryz.underlying50 rfl HIX.out) (by assumption) ?rest4n5
                case hS4n5 =>
                  intro w' hSw
                  exact hSw.1
                try simp only [Act.put, List.getElem_toArray, List.getElem_cons_succ, List.getElem_cons_zero, List.setIfInBounds_toArray, List.set_cons_zero, List.set_cons_succ]
                refine wpAnyH_take (i := 5) (oi := _) (v := ?v5n6) rfl (by kernel_rfl) (by kernel_rfl) (by kernel_rfl) (fun _ _ _ h => h) (Or.inl ⟨by rfl, ?hy5n6⟩) (by assumption) ?rest5n6
                case hy5n6 =>
                  intro w' hSw
                  go_simp
                  try with_reducible rfl
                try simp only [Act.put, List.getElem_toArray, List.getElem_cons_succ, List.getElem_cons_zero, List.setIfInBounds_toArray, List.set_cons_zero, List.set_cons_succ]
                refine wpAnyH_take (i := 6) (oi := _) (v := ?v6n7) rfl (by kernel_rfl) (by kernel_rfl) (by kernel_rfl) (fun _ _ _ h => h) (Or.inl ⟨by rfl, ?hy6n7⟩) (by assumption) ?rest6n7
                case hy6n7 =>
                  intro w' hSw
                  go_simp
                  try with_reducible rfl
                try simp only [Act.put, List.getElem_toArray, List.getElem_cons_succ, List.getElem_cons_zero, List.setIfInBounds_toArray, List.set_cons_zero, List.set_cons_succ]
                refine wpAnyH_take (i := 7) (oi := _) (v := ?v7n8) rfl (by kernel_rfl) (by kernel_rfl) (by kernel_rfl) (fun _ _ _ h => h) (Or.inl ⟨by rfl, ?hy7n8⟩) (by assumption) ?rest7n8
                case hy7n8 =>
                  intro w' hSw
                  go_simp
                  try with_reducible rfl
                try simp only [Act.put, List.getElem_toArray, List.getElem_cons_succ, List.getElem_cons_zero, List.setIfInBounds_toArray, List.set_cons_zero, List.set_cons_succ]
                refine wpAnyH_take (i := 8) (oi := _) (v := ?v8n9) rfl (by kernel_rfl) (by kernel_rfl) (by kernel_rfl) (fun _ _ _ h => h) (Or.inl ⟨by rfl, ?hy8n9⟩) (by assumption) ?rest8n9
                case hy8n9 =>
                  intro w' hSw
                  go_simp
                  try with_reducible rfl
                try simp only [Act.put, List.getElem_toArray, List.getElem_cons_succ, List.getElem_cons_zero, List.setIfInBounds_toArray, List.set_cons_zero, List.set_cons_succ]
                refine' wpAnyH_take (i := 9) (oi := _) (v := _) rfl (by kernel_rfl) (by kernel_rfl) (by kernel_rfl) (fun _ _ _ h => h) (yieldsIf_load_mid (by rfl) _ _ rfl _ _ rfl _ _ ?hS9n10 Tryz.underlying50 rfl HIY.out) (by assumption) ?rest9n10
                case hS9n10 =>
                  intro w' hSw
                  exact hSw.2
                try simp only [Act.put, List.getElem_toArray, List.getElem_cons_succ, List.getElem_cons_zero, List.setIfInBounds_toArray, List.set_cons_zero, List.set_cons_succ]
                refine wpAnyH_ready (rs := [10]) (by kernel_rfl) (by simp) (AllReadyH.cons (o := _) rfl (fun K hK => ?_) AllReadyH.nil)
                go_simp
                with_reducible refine (hCC _).mono ?_
                rintro e w3 ⟨rfl, hb3⟩
                have HB3 := Lib.hid (((Below.refl _ wr).drew).trans hb3)
                go_wp2_with fail
                refine hK.out _ _ (HKEEP.out _ (((Below.refl _ wr).drew).trans hb3)) (fun hHeld => ?_)
                clear hK K
                try simp only [Act.put, List.getElem_toArray, List.getElem_cons_succ, List.getElem_cons_zero, List.setIfInBounds_toArray, List.set_cons_zero, List.set_cons_succ]
                refine wpAnyH_take (i := 11) (oi := _) (v := ?v11n11) rfl (by kernel_rfl) (by kernel_rfl) (by kernel_rfl) (fun _ _ _ h => h) (Or.inl ⟨by rfl, ?hy11n11⟩) (by assumption) ?rest11n11
                case hy11n11 =>
                  intro w' hSw
                  go_simp
                  try with_reducible rfl
                try simp only [Act.put, List.getElem_toArray, List.getElem_cons_succ, List.getElem_cons_zero, List.setIfInBounds_toArray, List.set_cons_zero, List.set_cons_succ]
                refine wpAnyH_done (by kernel_rfl) ?_ _
                clear hHeld
                have HO3 := Lib.hid (HO2.out.below HB3.out)
                have HX3 := Lib.hid ((HKEEP.out _ HB3.out).1)
                have HG3 := Lib.hid (show w.grownBy w3 (some g) from ⟨HB3.out.os.trans HG2.out.os, HB3.out.tape.trans HG2.out.tape, HB3.out.output.trans HG2.out.output, Nat.le_trans HG2.out.size HB3.out.size, fun i hi hne => (HB3.out.block i (Nat.lt_of_lt_of_le hi HG2.out.size)).trans (HG2.out.block i hi hne)⟩)
                have hiwn : iw < n := by omega
                have r1 : (0 : Int) ≤ (iw : Int) := by omega
                have r2 : (iw : Int) < (n : Int) := by omega
                have HST := Lib.hid (own_setB HO3.out HML.out hiwn HOX.out)
                rw [Nat.zero_add] at HST
                have HTH := Lib.hid (own_there HO3.out HML.out (o := iw * 33) (m := 33) (by have : (iw + 1) * 33 ≤ n * 33 := Nat.mul_le_mul_right _ (by omega); omega))
                have HOA := Lib.hid (blA_one x)
                have HSZ := Lib.hid (show (blL x).toArray.size = 33 by rw [List.size_toArray, blL_length HOX.out])
                have HIA : Hid ((Tryz.prog.info? 50).map (·.size) = some (blL x).toArray.size) := by show _ = _; rw [List.size_toArray]; exact HIX.out
                go_wp2_with (first
                  | (refine wpList_load_mid rfl 50 _ rfl g (k * 33 + kk * 33) rfl _ _ HX3.out Tryz.underlying50 rfl HIX.out ?_)
                  | (refine wpList_store_mid rfl 50 _ _ rfl g (iw * 33) (blL x).toArray rfl rfl (by rw [HSZ.out]; exact HTH.out) HIA.out HOA.out ?_))
                have HO4 := Lib.hid HST.out.1; have HG4 := Lib.hid HST.out.2
                generalize World.setCells w3 g (iw * 33) _ = w4 at HO4 HG4 ⊢
                have HG5 := Lib.hid (show w.grownBy w4 (some g) from ⟨HG4.out.os.trans HG3.out.os, HG4.out.tape.trans HG3.out.tape, HG4.out.output.trans HG3.out.output, Nat.le_trans HG3.out.size HG4.out.size, fun i hi hne => (HG4.out.block i (Nat.lt_of_lt_of_le hi HG3.out.size) hne).trans (HG3.out.block i hi hne)⟩)
                have HSET := Lib.hid (show (cptK l (k + kk) ++ l.drop iw).set iw x = cptK l (k + (kk + 1)) ++ l.drop (iw + 1) by
                  have hlt : iw < l.length := by rw [HN.out]; exact hiwn
                  rw [HSC.out, if_neg HNE.out, List.set_append_right _ _ (by rw [← HIW.out]; exact Nat.le_refl _), ← HIW.out, Nat.sub_self, List.drop_eq_getElem_cons hlt, List.set_cons_zero, List.append_assoc]; rfl)
                have HO5 := Lib.hid (show OwnB w4 base (.slice (some ⟨g, 0, none⟩) n cap) (cptK l (k + (kk + 1)) ++ l.drop (iw + 1)) by have := HO4.out; rwa [HSET.out] at this)
                go_wp2_with fail
                go_roundw
                case rel => exact ⟨iw + 1, kk + 1, by go_num, by go_num, by omega, by omega, by omega, by rw [HSC.out, if_neg HNE.out, List.length_append, ← HIW.out]; rfl, HO5.out, HG5.out⟩
                case measure => simp [intOf]; omega
              · have HEQ2 := Lib.hid (of_decide_eq_true hc)
                clear hc
                go_wp2_with fail
                refine wp_region_held_drew (S := fun w' => w'.rangeAt g (k * 33 + kk * 33) (blL x) ∧ w'.rangeAt g (k * 33 + jj * 33) (blL y)) (by kernel_rfl) ⟨HXR.out, HYR.out⟩ (fun hHeld => ?_)
                refine wpAnyH_take (i := 0) (oi := _) (v := ?v0n12) rfl (by kernel_rfl) (by kernel_rfl) (by kernel_rfl) (fun _ _ _ h => h) (Or.inl ⟨by rfl, ?hy0n12⟩) (by assumption) ?rest0n12
                case hy0n12 =>
                  intro w' hSw
                  go_simp
                  try with_reducible rfl
                try simp only [Act.put, List.getElem_toArray, List.getElem_cons_succ, List.getElem_cons_zero, List.setIfInBounds_toArray, List.set_cons_zero, List.set_cons_succ]
                refine wpAnyH_take (i := 1) (oi := _) (v := ?v1n13) rfl (by kernel_rfl) (by kernel_rfl) (by kernel_rfl) (fun _ _ _ h => h) (Or.inl ⟨by rfl, ?hy1n13⟩) (by assumption) ?rest1n13
                case hy1n13 =>
                  intro w' hSw
                  go_simp
                  try with_reducible rfl
                try simp only [Act.put, List.getElem_toArray, List.getElem_cons_succ, List.getElem_cons_zero, List.setIfInBounds_toArray, List.set_cons_zero, List.set_cons_succ]
                refine wpAnyH_take (i := 2) (oi := _) (v := ?v2n14) rfl (by kernel_rfl) (by kernel_rfl) (by kernel_rfl) (fun _ _ _ h => h) (Or.inl ⟨by rfl, ?hy2n14⟩) (by assumption) ?rest2n14
                case hy2n14 =>
                  intro w' hSw
                  go_simp
                  try with_reducible rfl
                try simp only [Act.put, List.getElem_toArray, List.getElem_cons_succ, List.getElem_cons_zero, List.setIfInBounds_toArray, List.set_cons_zero, List.set_cons_succ]
                refine wpAnyH_take (i := 3) (oi := _) (v := ?v3n15) rfl (by kernel_rfl) (by kernel_rfl) (by kernel_rfl) (fun _ _ _ h => h) (Or.inl ⟨by rfl, ?hy3n15⟩) (by assumption) ?rest3n15
                case hy3n15 =>
                  intro w' hSw
                  go_simp
                  try with_reducible rfl
                try simp only [Act.put, List.getElem_toArray, List.getElem_cons_succ, List.getElem_cons_zero, List.setIfInBounds_toArray, List.set_cons_zero, List.set_cons_succ]
                refine' wpAnyH_take (i := 4) (oi := _) (v := _) rfl (by kernel_rfl) (by kernel_rfl) (by kernel_rfl) (fun _ _ _ h => h) (yieldsIf_load_mid (by rfl) _ _ rfl _ _ rfl _ _ ?hS4n16 Tryz.underlying50 rfl HIX.out) (by assumption) ?rest4n16
                case hS4n16 =>
                  intro w' hSw
                  exact hSw.1
                try simp only [Act.put, List.getElem_toArray, List.getElem_cons_succ, List.getElem_cons_zero, List.setIfInBounds_toArray, List.set_cons_zero, List.set_cons_succ]
                refine wpAnyH_take (i := 5) (oi := _) (v := ?v5n17) rfl (by kernel_rfl) (by kernel_rfl) (by kernel_rfl) (fun _ _ _ h => h) (Or.inl ⟨by rfl, ?hy5n17⟩) (by assumption) ?rest5n17
                case hy5n17 =>
                  intro w' hSw
                  go_simp
                  try with_reducible rfl
                try simp only [Act.put, List.getElem_toArray, List.getElem_cons_succ, List.getElem_cons_zero, List.setIfInBounds_toArray, List.set_cons_zero, List.set_cons_succ]
                refine wpAnyH_take (i := 6) (oi := _) (v := ?v6n18) rfl (by kernel_rfl) (by kernel_rfl) (by kernel_rfl) (fun _ _ _ h => h) (Or.inl ⟨by rfl, ?hy6n18⟩) (by assumption) ?rest6n18
                case hy6n18 =>
                  intro w' hSw
                  go_simp
                  try with_reducible rfl
                try simp only [Act.put, List.getElem_toArray, List.getElem_cons_succ, List.getElem_cons_zero, List.setIfInBounds_toArray, List.set_cons_zero, List.set_cons_succ]
                refine wpAnyH_take (i := 7) (oi := _) (v := ?v7n19) rfl (by kernel_rfl) (by kernel_rfl) (by kernel_rfl) (fun _ _ _ h => h) (Or.inl ⟨by rfl, ?hy7n19⟩) (by assumption) ?rest7n19
                case hy7n19 =>
                  intro w' hSw
                  go_simp
                  try with_reducible rfl
                try simp only [Act.put, List.getElem_toArray, List.getElem_cons_succ, List.getElem_cons_zero, List.setIfInBounds_toArray, List.set_cons_zero, List.set_cons_succ]
                refine wpAnyH_take (i := 8) (oi := _) (v := ?v8n20) rfl (by kernel_rfl) (by kernel_rfl) (by kernel_rfl) (fun _ _ _ h => h) (Or.inl ⟨by rfl, ?hy8n20⟩) (by assumption) ?rest8n20
                case hy8n20 =>
                  intro w' hSw
                  go_simp
                  try with_reducible rfl
                try simp only [Act.put, List.getElem_toArray, List.getElem_cons_succ, List.getElem_cons_zero, List.setIfInBounds_toArray, List.set_cons_zero, List.set_cons_succ]
                refine' wpAnyH_take (i := 9) (oi := _) (v := _) rfl (by kernel_rfl) (by kernel_rfl) (by kernel_rfl) (fun _ _ _ h => h) (yieldsIf_load_mid (by rfl) _ _ rfl _ _ rfl _ _ ?hS9n21 Tryz.underlying50 rfl HIY.out) (by assumption) ?rest9n21
                case hS9n21 =>
                  intro w' hSw
                  exact hSw.2
                try simp only [Act.put, List.getElem_toArray, List.getElem_cons_succ, List.getElem_cons_zero, List.setIfInBounds_toArray, List.set_cons_zero, List.set_cons_succ]
                refine wpAnyH_ready (rs := [10]) (by kernel_rfl) (by simp) (AllReadyH.cons (o := _) rfl (fun K hK => ?_) AllReadyH.nil)
                go_simp
                with_reducible refine (hCC _).mono ?_
                rintro e w3 ⟨rfl, hb3⟩
                have HB3 := Lib.hid (((Below.refl _ wr).drew).trans hb3)
                go_wp2_with fail
                refine hK.out _ _ (HKEEP.out _ (((Below.refl _ wr).drew).trans hb3)) (fun hHeld => ?_)
                clear hK K
                try simp only [Act.put, List.getElem_toArray, List.getElem_cons_succ, List.getElem_cons_zero, List.setIfInBounds_toArray, List.set_cons_zero, List.set_cons_succ]
                refine wpAnyH_take (i := 11) (oi := _) (v := ?v11n22) rfl (by kernel_rfl) (by kernel_rfl) (by kernel_rfl) (fun _ _ _ h => h) (Or.inl ⟨by rfl, ?hy11n22⟩) (by assumption) ?rest11n22
                case hy11n22 =>
                  intro w' hSw
                  go_simp
                  try with_reducible rfl
                try simp only [Act.put, List.getElem_toArray, List.getElem_cons_succ, List.getElem_cons_zero, List.setIfInBounds_toArray, List.set_cons_zero, List.set_cons_succ]
                refine wpAnyH_done (by kernel_rfl) ?_ _
                clear hHeld
                have HO3 := Lib.hid (HO2.out.below HB3.out)
                have HG3 := Lib.hid (show w.grownBy w3 (some g) from ⟨HB3.out.os.trans HG2.out.os, HB3.out.tape.trans HG2.out.tape, HB3.out.output.trans HG2.out.output, Nat.le_trans HG2.out.size HB3.out.size, fun i hi hne => (HB3.out.block i (Nat.lt_of_lt_of_le hi HG2.out.size)).trans (HG2.out.block i hi hne)⟩)
                have HSAME := Lib.hid (show cptK l (k + (kk + 1)) = cptK l (k + kk) by rw [HSC.out, if_pos HEQ2.out, List.append_nil])
                go_wp2_with fail
                go_roundw
                case rel => exact ⟨iw, kk + 1, rfl, by go_num, by omega, by omega, by omega, by rw [HSAME.out]; exact HIW.out, by rw [HSAME.out]; exact HO3.out, HG3.out⟩
                case measure => simp [intOf]; omega
            · have hkn2 : kk = n - k := by omega
              have hd : decide ((kk : Int) < ((n - k : Nat) : Int)) = false := by simp; omega
              have HKN := Lib.hid (show k + kk = n by omega)
              have h1 : iw ≤ n := by omega
              have h2 : ¬ cap = iw := by omega
              have h3 : iw ≤ cap := by omega
              have h4 : 0 < n - iw := by omega
              have HTK := Lib.hid (show (cptK l (k + kk) ++ l.drop iw).take iw = cptK l n by rw [List.take_append_of_le_length (by rw [← HIW.out]; exact Nat.le_refl _), List.take_of_length_le (by rw [← HIW.out]; exact Nat.le_refl _), HKN.out])
              have HCL := Lib.hid (own_clearB HO2.out HML.out h1 (vs := (Builtin.zeroCells zB.toArray (n - iw)).toList) (by rw [Array.length_toList, zeroCells_size]; rfl))
              rw [HTK.out, Nat.zero_add] at HCL
              have HTH := Lib.hid (own_there HO2.out HML.out (o := iw * 33) (m := (n - iw) * 33) (by rw [← Nat.add_mul]; exact Nat.mul_le_mul_right _ (by omega)))
              have HIWN := Lib.hid (show iw = (cptK l n).length by rw [← HKN.out]; exact HIW.out)
              have r1 : (0 : Int) ≤ (iw : Int) := by omega
              clear hkn2
              go_wp2_with (refine wpList_clearB rfl (.tmp 61) rfl g (iw * 33) (n - iw) (cap - iw) rfl h4 HTH.out ?_)
              have HO4 := Lib.hid HCL.out.1; have HG4 := Lib.hid HCL.out.2
              generalize World.setCells wr g (iw * 33) _ = w4 at HO4 HG4 ⊢
              have HG5 := Lib.hid (show w.grownBy w4 (some g) from ⟨HG4.out.os.trans HG2.out.os, HG4.out.tape.trans HG2.out.tape, HG4.out.output.trans HG2.out.output, Nat.le_trans HG2.out.size HG4.out.size, fun i hi hne => (HG4.out.block i (Nat.lt_of_lt_of_le hi HG2.out.size) hne).trans (HG2.out.block i hi hne)⟩)
              go_wp2_with fail
              go_ret
              exact ⟨iw, rfl, HIWN.out, HO4.out, HG5.out⟩
      · obtain rfl : k = n := by omega
        have hd : decide ((k : Int) < (k : Int)) = false := by simp
        have HC := Lib.hid (show cptK l k = l by rw [cptK_take (by rw [HN.out]; exact Nat.le_refl _) (fun j x y hj h1 h2 => HND.out j x y hj h1 h2), List.take_of_length_le (by rw [HN.out]; exact Nat.le_refl _)])
        go_wp2_with fail
        go_ret
        exact ⟨k, rfl, by rw [HC.out, HN.out], by rw [HC.out]; exact HO.out.below HBE.out, ⟨HBE.out.os, HBE.out.tape, HBE.out.output, HBE.out.size, fun i hi _ => HBE.out.block i hi⟩⟩
end Go.Proofs.YtdjknefbaclleaaGreatDoor

namespace Go.Proofs.YtdjknefbaclleaaGreatDoor
open Go.RowKit Go.Sort

theorem below_grownG {w w' : World} {base g : Nat} (h : w.grownBy w' (some g)) (hg : base ≤ g) (hb : base ≤ w.heap.size) : Below base w w' := ⟨h.os, h.tape, h.output, h.size, fun k hk => h.block k (by omega) (fun e => by injection e with e; omega)⟩
theorem own_some {w : World} {base n cap : Nat} {sp : Option Addr} {l : List Bl} (h : OwnB w base (.slice sp n cap) l) (hn : l.length = n) (h0 : 0 < n) : ∃ g, sp = some ⟨g, 0, none⟩ := by
  obtain ⟨_, ⟨e, h1⟩ | ⟨g, cap', cur, e, _⟩⟩ := h.1
  · omega
  · injection e with e1; exact ⟨g, e1⟩
theorem SrtB.len {l m : List Bl} {h : ∀ x ∈ l, OkB x} (hs : SrtB l m h) : m.length = l.length := by
  obtain ⟨d, h1, _, _, rfl⟩ := hs; simp [h1]
/-- what union answers -/
def UniR (w : World) (l : List Bl) (h : ∀ x ∈ l, OkB x) (e : Ending) (w' : World) : Prop :=
  ∃ g m cap M, e = .returned (.slice (some ⟨g, 0, none⟩) m cap) ∧ SrtB l M h ∧ m = (cptK M l.length).length ∧ OwnB w' w.heap.size (.slice (some ⟨g, 0, none⟩) m cap) (cptK M l.length) ∧ Below w.heap.size w w'
set_option maxRecDepth 100000 in
set_option maxHeartbeats 1000000 in
theorem unionB_any (spa : Option Addr) (na ca : Nat) (la : List Bl) (spb : Option Addr) (nb cb : Nat) (lb : List Bl) (w : World) (ha : BlsIn w w.heap.size spa na ca la) (hb : BlsIn w w.heap.size spb nb cb lb) (hna : spa = none → ca = 0) (hnb : spb = none → cb = 0) (h1 : 1 ≤ na + nb) (h2 : na + nb ≤ 1000000) (hok : ∀ x ∈ la ++ lb, OkB x) :
    Calls Tryz.prog 48 #[.slice spa na ca, .slice spb nb cb] w (UniR w (la ++ lb) hok) := by
  have HA := Lib.hid ha; have HBb := Lib.hid hb; have HNA := Lib.hid hna; have HNB := Lib.hid hnb
  have HLEN := Lib.hid (show (la ++ lb).length = na + nb by rw [List.length_append, ha.len, hb.len])
  clear ha hb hna hnb
  have hcc : ∀ w1, Below w.heap.size w w1 → ∀ b, w1.heap[b]? = some (.cells #[.slice spa na ca, .slice spb nb cb] 24 (0, 0)) → w.heap.size ≤ w1.heap.size →
      Calls Tryz.prog 74 #[.slice (some ⟨b, 0, none⟩) 2 2] w1 fun e w' => ∃ sp cap, e = .returned (.slice sp (na + nb) cap) ∧ OwnB w' w1.heap.size (.slice sp (na + nb) cap) (la ++ lb) ∧ Below w1.heap.size w1 w' := by
    intro w1 hb b hg hs
    have hbl := (Array.getElem?_eq_some_iff.1 hg).1
    have hp : LbsIn w1 w1.heap.size (some ⟨b, 0, none⟩) 2 [⟨spa, na, ca, la⟩, ⟨spb, nb, cb, lb⟩] := by
      refine ⟨rfl, fun _ => ⟨b, 0, rfl, hbl, fun j hj => ?_⟩, fun q hq => ?_⟩
      · rw [Nat.zero_add, cell_of_row w1 b j _ _ _ hg]
        have : j = 0 ∨ j = 1 := by simp at hj; omega
        rcases this with rfl | rfl <;> rfl
      · simp at hq
        rcases hq with rfl | rfl
        · exact HA.out.up hb (Nat.le_refl _)
        · exact HBb.out.up hb (Nat.le_refl _)
    have hfl : ([⟨spa, na, ca, la⟩, ⟨spb, nb, cb, lb⟩] : List Lb).map (·.l) = [la, lb] := rfl
    have hfe : ([la, lb] : List (List Bl)).flatten = la ++ lb := by simp
    refine (concatB_any (some ⟨b, 0, none⟩) 2 2 _ w1 hp ?_ (by rw [hfl, hfe, HLEN.out]; exact h2) (by omega)).mono ?_
    · intro q hq
      simp at hq
      rcases hq with rfl | rfl
      · exact HNA.out
      · exact HNB.out
    · rintro e w' ⟨sp, n, cap, rfl, hn, ho, hb2⟩
      rw [hfl, hfe] at hn ho
      rw [HLEN.out] at hn
      subst hn
      exact ⟨sp, cap, rfl, ho, hb2⟩
  have HCC := Lib.hid hcc; clear hcc
  have HRB := Lib.hid (fun w : World => (show (Instr.buildSlice 137 2 #[(0, .slice spa na ca), (1, .slice spb nb cb)]).run Tryz.prog w = .ok (.slice (some ⟨w.heap.size, 0, none⟩) 2 2) (w.alloc (.cells #[.slice spa na ca, .slice spb nb cb] 24)) by kernel_rfl))
  go_enter Tryz.func48, Tryz.ntmps48
  go_wp2_with (refine wpList_slice_eqG rfl 137 2 [(0, .tmp 6), (1, .tmp 7)] rfl [(0, .slice spa na ca), (1, .slice spb nb cb)] rfl _ _ (HRB.out _) ?_; generalize hw0 : World.alloc w _ = w0; have hg0 := (by rw [← hw0]; exact heap_alloc_new w _ : w0.heap[w.heap.size]? = some (.cells #[.slice spa na ca, .slice spb nb cb] 24 (0, 0))); have hb0 := (by rw [← hw0]; exact (Below.refl _ _).alloc (Nat.le_refl _) _ : Below w.heap.size w w0); have HG0 := Lib.hid hg0; have HB0 := Lib.hid hb0; clear hw0 hg0 hb0)
  refine (HCC.out _ HB0.out _ HG0.out HB0.out.size).mono ?_
  rintro e w1 ⟨sp, cap, rfl, ho, hb1⟩
  obtain ⟨g, rfl⟩ := own_some ho HLEN.out (by omega)
  have HO := Lib.hid (ho.base HB0.out.size); have HB1 := Lib.hid (HB0.out.trans (hb1.mono HB0.out.size)); clear ho hb1
  have HS := Lib.hid (sortB_any w.heap.size g (na + nb) cap (la ++ lb) w1 HO.out HLEN.out h2)
  go_wp2_with fail
  refine HS.out.mono ?_
  rintro e w2 ⟨rfl, M, hm, ho2, hb2, _⟩
  have HM := Lib.hid hm; have HO2 := Lib.hid ho2; have HB2 := Lib.hid (HB1.out.trans hb2)
  have HML := Lib.hid (show M.length = na + nb by rw [hm.len, HLEN.out])
  clear hm ho2 hb2
  have HC := Lib.hid (compactB_any w.heap.size g (na + nb) cap M w2 HO2.out HML.out h2)
  obtain ⟨_, hgb, _⟩ := own_parts HO2.out HML.out
  have HGB := Lib.hid hgb; clear hgb
  go_wp2_with fail
  refine HC.out.mono ?_
  rintro e w3 ⟨m, rfl, hm, ho3, hg3⟩
  have HO3 := Lib.hid ho3; have HM3 := Lib.hid hm
  have HB3 := Lib.hid (HB2.out.trans (below_grownG hg3 HGB.out HB2.out.size))
  clear ho3 hg3 hm
  go_wp2_with fail
  go_ret
  exact ⟨g, m, cap, M, rfl, HM.out, by rw [HLEN.out]; exact HM3.out, by rw [HLEN.out]; exact HO3.out, HB3.out⟩
end Go.Proofs.YtdjknefbaclleaaGreatDoor

namespace Go.Proofs.YtdjknefbaclleaaGreatDoor
open Go.RowKit Go.Sort

def AscB (l : List Bl) : Prop := l.Pairwise fun a b => dls a.d b.d = true
theorem srt_ext : ∀ {a b : List Bl}, AscB a → AscB b → (∀ z, z ∈ a ↔ z ∈ b) → a = b
  | [], [], _, _, _ => rfl
  | [], y :: b, _, _, h => absurd ((h y).2 (by simp)) (by simp)
  | x :: a, [], _, _, h => absurd ((h x).1 (by simp)) (by simp)
  | x :: a, y :: b, ha, hb, h => by
    obtain ⟨ha1, ha2⟩ := List.pairwise_cons.1 ha
    obtain ⟨hb1, hb2⟩ := List.pairwise_cons.1 hb
    have e : x = y := by
      rcases List.mem_cons.1 ((h x).1 (by simp)) with e | e
      · exact e
      · rcases List.mem_cons.1 ((h y).2 (by simp)) with e' | e'
        · exact e'.symm
        · have h1 := hb1 x e; have h2 := ha1 y e'
          rw [dls_asymm h1] at h2; cases h2
    subst e
    congr 1
    refine srt_ext ha2 hb2 (fun z => ⟨fun hz => ?_, fun hz => ?_⟩)
    · rcases List.mem_cons.1 ((h z).1 (List.mem_cons_of_mem _ hz)) with e | e
      · subst e; have := ha1 z hz; rw [dls_irrefl] at this; cases this
      · exact e
    · rcases List.mem_cons.1 ((h z).2 (List.mem_cons_of_mem _ hz)) with e | e
      · subst e; have := hb1 z hz; rw [dls_irrefl] at this; cases this
      · exact e
/-- the sorted list's places -/
structure Tagged (l M : List Bl) (tg : Nat → Nat) : Prop where
  len : M.length = l.length
  at_ : ∀ j z, M[j]? = some z → l[tg j]? = some z
  all : ∀ i z, l[i]? = some z → ∃ j, M[j]? = some z ∧ tg j = i
  ord : ∀ i j y z, i < j → M[i]? = some y → M[j]? = some z → dls z.d y.d = false ∧ (y.d = z.d → tg i < tg j)
theorem SrtB.tagged {l M : List Bl} {h : ∀ x ∈ l, OkB x} (hs : SrtB l M h) : ∃ tg, Tagged l M tg := by
  obtain ⟨d, h1, h2, h3, rfl⟩ := hs
  have hp : d.toList.Perm ((obl l h).zipIdx) := by
    have h4 := h2.2.2
    have e1 : (d.extract 0 l.length).toList = d.toList := by rw [← h1]; simp
    have hsz : (tagB (obl l h)).size = l.length := by rw [tagB_size, obl_len]
    have e2 : ((tagB (obl l h)).extract 0 l.length).toList = (tagB (obl l h)).toList := by rw [← hsz]; simp
    rw [e1, e2] at h4
    simpa [tagB] using h4
  have hM : ∀ j z, (d.toList.map (·.1.1))[j]? = some z → ∃ hj : j < d.size, d[j].1.1 = z := fun j z hj => by
    have hlt := (List.getElem?_eq_some_iff.1 hj).1
    have hlt' : j < d.size := by simpa using hlt
    have := (List.getElem?_eq_some_iff.1 hj).2
    exact ⟨hlt', by simpa using this⟩
  refine ⟨fun j => (d[j]!).2, by simp [h1], fun j z hj => ?_, fun i z hi => ?_, fun i j y z hij hi hj => ?_⟩
  · obtain ⟨hlt, e⟩ := hM j z hj
    have hm : d[j] ∈ (obl l h).zipIdx := hp.mem_iff.1 (by simp [Array.getElem_mem])
    have := List.mem_zipIdx_iff_getElem?.1 hm
    rw [getElem!_pos d j hlt]
    have h5 : ((obl l h).map (·.1))[d[j].2]? = some d[j].1.1 := by rw [List.getElem?_map, this]; rfl
    rw [obl_map] at h5
    rw [h5, e]
  · have hil := (List.getElem?_eq_some_iff.1 hi).1
    have hio : i < (obl l h).length := by rw [obl_len]; exact hil
    have hm : ((obl l h)[i], i) ∈ (obl l h).zipIdx := List.mem_zipIdx_iff_getElem?.2 (List.getElem?_eq_getElem hio)
    have hm2 := hp.mem_iff.2 hm
    obtain ⟨j, hj, e⟩ := List.getElem_of_mem hm2
    have hj' : j < d.size := by simpa using hj
    have e' : d[j] = ((obl l h)[i], i) := by simpa using e
    refine ⟨j, ?_, by rw [getElem!_pos d j hj', e']⟩
    have h6 : (d.toList.map (·.1.1))[j]? = some d[j].1.1 := by simp [hj']
    rw [h6, e']
    show some ((obl l h)[i].1) = some z
    rw [obl_get]
    exact congrArg some ((List.getElem?_eq_some_iff.1 hi).2)
  · obtain ⟨hlt1, e1⟩ := hM i y hi
    obtain ⟨hlt2, e2⟩ := hM j z hj
    have h5 := h3 i j (Nat.zero_le _) hij (by omega)
    rw [getElem!_pos d i hlt1, getElem!_pos d j hlt2, tl_iff, ltB, ltB, e1, e2] at h5
    rw [getElem!_pos d i hlt1, getElem!_pos d j hlt2]
    rcases h5 with h5 | ⟨h5, h6⟩
    · exact ⟨dls_asymm h5, fun e => by rw [e, dls_irrefl] at h5; cases h5⟩
    · exact ⟨h5, fun _ => h6⟩
theorem cpt_mem {M : List Bl} {k : Nat} {z : Bl} : z ∈ cptK M k ↔ ∃ j, j < k ∧ M[j]? = some z ∧ (j = 0 ∨ (M[j]?.map (·.d)) ≠ (M[j - 1]?.map (·.d))) := by
  unfold cptK
  rw [List.mem_filterMap]
  constructor
  · rintro ⟨j, hj, h⟩
    split at h
    · rename_i hc; exact ⟨j, List.mem_range.1 hj, h, hc⟩
    · cases h
  · rintro ⟨j, hj, h, hc⟩
    exact ⟨j, List.mem_range.2 hj, by rw [if_pos hc]; exact h⟩
/-- of each digest the first -/
theorem cpt_first {l M : List Bl} {tg : Nat → Nat} (ht : Tagged l M tg) {z : Bl} : z ∈ cptK M l.length ↔ ∃ i : Nat, l[i]? = some z ∧ ∀ (i' : Nat) (y : Bl), i' < i → l[i']? = some y → y.d ≠ z.d := by
  rw [cpt_mem]
  constructor
  · rintro ⟨j, hj, hz, hc⟩
    refine ⟨tg j, ht.at_ j z hz, fun i' y hi hy hd => ?_⟩
    obtain ⟨j', hj', e⟩ := ht.all i' y hy
    have hlt : j' < j := by
      rcases Nat.lt_trichotomy j' j with h | h | h
      · exact h
      · subst h; omega
      · have := (ht.ord j j' z y h hz hj').2 hd.symm; omega
    have hp : ∃ p, M[j - 1]? = some p := ⟨M[j - 1]'(by rw [ht.len]; omega), List.getElem?_eq_getElem _⟩
    obtain ⟨p, hp⟩ := hp
    have hpd : p.d = z.d := by
      by_cases h : j' = j - 1
      · rw [← h] at hp; rw [hp] at hj'; injection hj' with hj'; rw [hj']; exact hd
      · have o1 := (ht.ord j' (j - 1) y p (by omega) hj' hp).1
        have o2 := (ht.ord (j - 1) j p z (by omega) hp hz).1
        rw [hd] at o1
        exact dls_tri o1 o2
    rcases hc with hc | hc
    · omega
    · exact hc (by rw [hz, hp]; exact congrArg some hpd.symm)
  · rintro ⟨i, hi, hmin⟩
    obtain ⟨j, hj, e⟩ := ht.all i z hi
    have hjl := (List.getElem?_eq_some_iff.1 hj).1
    refine ⟨j, by rw [← ht.len]; exact hjl, hj, ?_⟩
    by_cases h0 : j = 0
    · exact .inl h0
    · refine .inr fun hc => ?_
      have hp : ∃ p, M[j - 1]? = some p := ⟨M[j - 1]'(by omega), List.getElem?_eq_getElem _⟩
      obtain ⟨p, hp⟩ := hp
      rw [hj, hp] at hc
      have hpd : z.d = p.d := by injection hc
      have o := (ht.ord (j - 1) j p z (by omega) hp hj).2 hpd.symm
      exact hmin (tg (j - 1)) p (by omega) (ht.at_ _ p hp) hpd.symm
/-- in order -/
theorem cpt_asc {l M : List Bl} {tg : Nat → Nat} (ht : Tagged l M tg) : ∀ k, k ≤ l.length → AscB (cptK M k) ∧ ∀ a ∈ cptK M k, ∀ y, 0 < k → M[k - 1]? = some y → dls a.d y.d = true ∨ a.d = y.d
  | 0, _ => ⟨List.Pairwise.nil, fun a ha => by cases ha⟩
  | 1, h => by
    have hx : M[0]? = some (M[0]'(by rw [ht.len]; omega)) := List.getElem?_eq_getElem _
    rw [cptK_one hx]
    refine ⟨List.pairwise_singleton _ _, fun a ha y _ hy => .inr ?_⟩
    rw [List.mem_singleton.1 ha]
    have : M[0]? = some y := hy
    rw [hx] at this; injection this with this; rw [this]
  | k + 2, h => by
    obtain ⟨h1, h2⟩ := cpt_asc ht (k + 1) (by omega)
    have hx : M[k + 1]? = some (M[k + 1]'(by rw [ht.len]; omega)) := List.getElem?_eq_getElem _
    have hy : M[k]? = some (M[k]'(by rw [ht.len]; omega)) := List.getElem?_eq_getElem _
    generalize M[k + 1]'(by rw [ht.len]; omega) = x at hx
    generalize M[k]'(by rw [ht.len]; omega) = y at hy
    have ho := (ht.ord k (k + 1) y x (by omega) hy hx).1
    rw [cptK_succ hx hy]
    by_cases hd : x.d = y.d
    · rw [if_pos hd, List.append_nil]
      refine ⟨h1, fun a ha z _ hz => ?_⟩
      have : M[k + 1]? = some z := hz
      rw [hx] at this; injection this with this
      rw [← this, hd]
      exact h2 a ha y (by omega) hy
    · rw [if_neg hd]
      have hyx : dls y.d x.d = true := by
        cases h5 : dls y.d x.d
        · exact absurd (dls_tri ho h5) hd
        · rfl
      have hlow : ∀ a ∈ cptK M (k + 1), dls a.d x.d = true := fun a ha => by
        rcases h2 a ha y (by omega) hy with h6 | h6
        · exact dls_trans h6 hyx
        · rw [h6]; exact hyx
      refine ⟨?_, fun a ha z _ hz => ?_⟩
      · unfold AscB
        rw [List.pairwise_append]
        exact ⟨h1, List.pairwise_singleton _ _, fun a ha b hb => by rw [List.mem_singleton.1 hb]; exact hlow a ha⟩
      · have : M[k + 1]? = some z := hz
        rw [hx] at this; injection this with this
        rw [← this]
        rcases List.mem_append.1 ha with ha | ha
        · exact .inl (hlow a ha)
        · rw [List.mem_singleton.1 ha]; exact .inr rfl
/-- union of two lists in order -/
theorem uni_eq {a b M T : List Bl} {h : ∀ x ∈ a ++ b, OkB x} (hs : SrtB (a ++ b) M h) (hT : AscB T) (hm : ∀ z, z ∈ T ↔ ∃ i : Nat, (a ++ b)[i]? = some z ∧ ∀ (i' : Nat) (y : Bl), i' < i → (a ++ b)[i']? = some y → y.d ≠ z.d) : cptK M (a ++ b).length = T := by
  obtain ⟨tg, ht⟩ := hs.tagged
  exact srt_ext (cpt_asc ht _ (Nat.le_refl _)).1 hT (fun z => (cpt_first ht).trans (hm z).symm)
end Go.Proofs.YtdjknefbaclleaaGreatDoor
