/-
  The walk of KeytreeSpoils (condition: the table of constants reads as it is laid).
-/
import Derived.Test.YtbfgkbcpkldofaaDoorKeyRd
import Derived.Test.YtbfgkbcpkldofaaDoorKeyRv
namespace Go.Proofs.YtbfgkbcpkldofaaDoor
open Go.RowKit Go.Proofs.YtbfgkbcpkldofaaDoor.One

def cgL (p i b : Int) : List Value := [.int .i64 p, .int .i64 i, .int .u8 b]
/-- a change in memory -/
def cgA (p i b : Int) : Array Value := (cgL p i b).toArray
theorem mdK (m : Int) (hm : 0 < m) (hb : m ≤ 1000) (x : Int) : (wrap64 (Int.tmod x m + m)).tmod m = x % m := by
  have h1 : -m < Int.tmod x m := Int.lt_tmod_of_pos x hm
  have h2 : Int.tmod x m < m := Int.tmod_lt_of_pos x hm
  rw [show wrap64 (Int.tmod x m + m) = Int.tmod x m + m by unfold wrap64; omega]
  rw [Int.tmod_eq_emod_of_nonneg (by omega)]
  rcases Int.le_total 0 x with h | h
  · rw [Int.tmod_eq_emod_of_nonneg h, Int.add_emod_right, Int.emod_emod_of_dvd _ (Int.dvd_refl m)]
  · have e : Int.tmod x m = x - m * x.tdiv m := by rw [Int.tmod_def]
    rw [e, Int.add_emod_right, Int.sub_mul_emod_self_left]
theorem byt_set {l : List Int} (h : Byt l) (j : Nat) {u : Int} (hu : 0 ≤ u ∧ u < 256) : Byt (l.set j u) := fun y hy => by
  rcases List.mem_or_eq_of_mem_set hy with hy | rfl
  · exact h y hy
  · exact hu
theorem H16.put {l : List Int} (h : H16 l) (j : Nat) {u : Int} (hu : 0 ≤ u ∧ u < 256) : H16 (l.set j u) := ⟨by rw [List.length_set]; exact h.1, byt_set h.2 j hu⟩
theorem D32.put {l : List Int} (h : D32 l) (j : Nat) {u : Int} (hu : 0 ≤ u ∧ u < 256) : D32 (l.set j u) := ⟨by rw [List.length_set]; exact h.1, fun y hy => by
  rcases List.mem_or_eq_of_mem_set hy with hy | rfl
  · exact h.2 y hy
  · exact hu⟩
theorem xor_byt (a b : Int) : 0 ≤ bits .xor .u8 a b ∧ bits .xor .u8 a b < 256 := ⟨bits_lo_u8 _ _ _, by have := bits_hi_u8 .xor a b; omega⟩
theorem pkA_set (r : List Int) (j : Nat) (u : Int) : (pkA 2 r).setIfInBounds (j + 1) (.int .u8 u) = pkA 2 (r.set j u) := by
  unfold pkA pkL
  rw [List.setIfInBounds_toArray, List.set_cons_succ, List.map_set]
theorem dgA_set (d : List Int) (j : Nat) (u : Int) : (dgA d).setIfInBounds j (.int .u8 u) = dgA (d.set j u) := by
  unfold dgA
  rw [List.setIfInBounds_toArray, List.map_set]
theorem getD_mapr (f : Nat → List Int) {n i : Nat} (hi : i < n) : ((List.range n).map f).getD i [] = f i := by rw [List.getD_eq_getElem?_getD, List.getElem?_map, List.getElem?_range hi]; rfl
/-- lists read as halves still do where a byte is written -/
theorem HvsIn.poke {w : World} {B : Nat} {sp : Option Addr} {n cap : Nat} {l : List (List Int)} (h : HvsIn w B sp n cap l) (a : Addr) (u : Int) (hu : 0 ≤ u ∧ u < 256) : ∃ l', HvsIn (w.setCell a (.int .u8 u)) B sp n cap l' := by
  by_cases h0 : 0 < n
  · obtain ⟨b, off, e, hlt, hc, hr⟩ := h.cells h0
    refine ⟨(List.range n).map fun i => (List.range 16).map fun j => if a = ⟨b, off + i * 16 + j, none⟩ then u else (l.getD i []).getD j 0, ?_, ?_, ?_⟩
    · simp
    · intro x hx
      obtain ⟨i, hi, rfl⟩ := List.mem_map.1 hx
      have hi := List.mem_range.1 hi
      have h16 := h.at16 hi
      refine ⟨by simp, fun y hy => ?_⟩
      obtain ⟨j, hj, rfl⟩ := List.mem_map.1 hy
      have hj := List.mem_range.1 hj
      split
      · exact hu
      · rw [List.getD_eq_getElem?_getD, List.getElem?_eq_getElem (by rw [h16.1]; exact hj)]; exact h16.2 _ (List.getElem_mem _)
    · intro _
      refine ⟨b, off, e, hlt, hc, fun i hi => ?_⟩
      intro j v hv
      have h16 := h.at16 hi
      rw [getD_mapr _ hi, List.getElem?_map, List.getElem?_map] at hv
      rcases Nat.lt_or_ge j 16 with hj | hj
      · rw [List.getElem?_range hj] at hv
        simp only [Option.map_some] at hv
        injection hv with hv
        subst hv
        have hcell := hr i hi j (.int .u8 ((l.getD i []).getD j 0)) (by rw [List.getElem?_map, List.getElem?_eq_getElem (by rw [h16.1]; exact hj), Option.map_some, List.getD_eq_getElem?_getD (l := l.getD i []), List.getElem?_eq_getElem (by rw [h16.1]; exact hj)]; rfl)
        by_cases ha : a = ⟨b, off + i * 16 + j, none⟩
        · rw [if_pos ha, ha]; exact World.cell?_setCell_same _ _ _ hcell
        · rw [if_neg ha]; exact (World.cell?_setCell_other _ _ _ _ ha).trans hcell
      · rw [List.getElem?_eq_none (by simp; omega)] at hv
        simp at hv
  · exact ⟨l, h.len, h.ok, fun hn => absurd hn h0⟩
theorem OwnHv.at68 {w : World} {base : Nat} {sp : Option Addr} {n cap : Nat} {l : List (List Int)} (h : OwnHv w base (.slice sp n cap) l) (h0 : 0 < n) : ∃ g cur, sp = some ⟨g, 0, none⟩ ∧ base ≤ g ∧ w.heap[g]? = some (.cells cur 23 (0, 0)) ∧ n ≤ cap := by
  obtain ⟨_, ⟨e, _⟩ | ⟨g, cap', cur, e, hb, hg, hc, _⟩⟩ := h.1
  · injection e with e1 e2 e3; omega
  · injection e with e1 e2 e3
    subst e3
    exact ⟨g, cur, e1, hb, hg, by omega⟩
theorem getD_at {l : List Int} {j : Nat} (hj : j < l.length) : (l.map (Value.int .u8))[j]? = some (.int .u8 (l.getD j 0)) := by
  rw [List.getElem?_map, List.getElem?_eq_getElem hj, List.getD_eq_getElem?_getD, List.getElem?_eq_getElem hj]; rfl
theorem buildSgN (x : List Int) (a n : Int) (hx : H16 x) (w : World) :
    (Instr.build 29 #[(0, .agg (hvA x)), (1, .int .i64 a), (2, .int .i64 n)]).run Tryd.prog w = .ok (.agg (sgA x a n)) w := by
  refine run_build w _ _ _ ?_
  rw [built_fill zeroSg Tryd.underlying29 (places := [(0, 16), (16, 1), (17, 1)]) (by kernel_rfl)]
  show Instr.fill _ ([] ++ (List.replicate 16 (Value.int .u8 0) ++ [Value.int .i64 0, Value.int .i64 0])).toArray [(0, .agg (x.map (Value.int .u8)).toArray), (1, .int .i64 a), (2, .int .i64 n)] = _
  rw [fill_put (x.map (Value.int .u8)) [] (List.replicate 16 (Value.int .u8 0)) [Value.int .i64 0, Value.int .i64 0] (off := 0) (sz := 16) rfl rfl (by rw [List.length_map, hx.1]) rfl (by simp), List.nil_append]
  rw [show x.map (Value.int .u8) ++ [Value.int .i64 0, Value.int .i64 0] = x.map (Value.int .u8) ++ ([Value.int .i64 0] ++ [Value.int .i64 0]) by simp]
  rw [fill_put [Value.int .i64 a] (x.map (Value.int .u8)) [Value.int .i64 0] [Value.int .i64 0] (off := 16) (sz := 1) rfl rfl rfl (by rw [List.length_map, hx.1]) rfl]
  rw [show x.map (Value.int .u8) ++ ([Value.int .i64 a] ++ [Value.int .i64 0]) = (x.map (Value.int .u8) ++ [Value.int .i64 a]) ++ ([Value.int .i64 0] ++ []) by simp]
  rw [fill_put [Value.int .i64 n] (x.map (Value.int .u8) ++ [Value.int .i64 a]) [Value.int .i64 0] [] (off := 17) (sz := 1) rfl rfl rfl (by rw [List.length_append, List.length_map, hx.1]; rfl) rfl]
  simp [Instr.fill, sgA, sgL]
/-- a half, a digest and a change in boxes -/
structure SpBox (w : World) (x d : List Int) (part idx by8 : Int) (w0 : World) : Prop where
  x : w0.heap[w.heap.size]? = some (.cells (hvA x) 23 (0, 0))
  d : w0.heap[w.heap.size + 1]? = some (.cells (dgA d) 25 (0, 0))
  c : w0.heap[w.heap.size + 1 + 1]? = some (.cells (cgA part idx by8) 27 (0, 0))
  b : Below w.heap.size w w0
  k : w.heap.size + 3 ≤ w0.heap.size
theorem SpBox.new (w : World) (x d : List Int) (part idx by8 : Int) : SpBox w x d part idx by8 (((w.alloc (.cells (hvA x) 23)).alloc (.cells (dgA d) 25)).alloc (.cells (cgA part idx by8) 27)) := by
  have h1 := heap_alloc_new w (.cells (hvA x) 23)
  have b1 := below_alloc w (.cells (hvA x) 23)
  have s1 := alloc_size w (.cells (hvA x) 23)
  generalize w.alloc (.cells (hvA x) 23) = w1 at *
  have h2 := heap_alloc_new w1 (.cells (dgA d) 25)
  have b2 := below_alloc w1 (.cells (dgA d) 25)
  have s2 := alloc_size w1 (.cells (dgA d) 25)
  generalize w1.alloc (.cells (dgA d) 25) = w2 at *
  have h3 := heap_alloc_new w2 (.cells (cgA part idx by8) 27)
  have b3 := below_alloc w2 (.cells (cgA part idx by8) 27)
  have s3 := alloc_size w2 (.cells (cgA part idx by8) 27)
  generalize w2.alloc (.cells (cgA part idx by8) 27) = w3 at *
  have b23 := b2.trans (b3.mono (by omega))
  refine ⟨(b23.block _ (by omega)).trans h1, ?_, ?_, b1.trans (b23.mono (by omega)), by omega⟩
  · rw [← s1]; exact (b3.block _ (by omega)).trans h2
  · rw [← s1, ← s2]; exact h3
theorem SpBox.below {w : World} {x d : List Int} {part idx by8 : Int} {w1 w2 : World} (r : SpBox w x d part idx by8 w1) (hb : Below w1.heap.size w1 w2) : SpBox w x d part idx by8 w2 := by
  have h1 := r.k; have h2 := hb.size
  exact ⟨(hb.block _ (by omega)).trans r.x, (hb.block _ (by omega)).trans r.d, (hb.block _ (by omega)).trans r.c, r.b.trans (hb.mono (by omega)), by omega⟩
theorem cg_p {w : World} {b : Nat} {part idx by8 : Int} {fr : Nat × Nat} (hb : w.heap[b]? = some (.cells (cgA part idx by8) 27 fr)) : w.cell? ⟨b, 0, none⟩ = some (.int .i64 part) := heap_cellO (L := cgL part idx by8) hb rfl
theorem cg_i {w : World} {b : Nat} {part idx by8 : Int} {fr : Nat × Nat} (hb : w.heap[b]? = some (.cells (cgA part idx by8) 27 fr)) : w.cell? ⟨b, 1, none⟩ = some (.int .i64 idx) := heap_cellO (L := cgL part idx by8) hb rfl
theorem cg_b {w : World} {b : Nat} {part idx by8 : Int} {fr : Nat × Nat} (hb : w.heap[b]? = some (.cells (cgA part idx by8) 27 fr)) : w.cell? ⟨b, 2, none⟩ = some (.int .u8 by8) := heap_cellO (L := cgL part idx by8) hb rfl
/-- before the switch -/
structure SpA (w : World) (x d r : List Int) (part idx by8 l : Int) (gp gs : Nat) (spc spp : Option Addr) (capc capp : Nat) (cl pl : List (List Int)) (w0 : World) : Prop where
  bx : SpBox w x d part idx by8 w0
  p : w0.heap[gp]? = some (.cells (pkA 2 r) 31 (0, 0))
  s : w0.heap[gs]? = some (.cells (siA l (.slice spc 68 capc) (.slice spp 2 capp)) 37 (0, 0))
  hc : OwnHv w0 (w.heap.size + 3) (.slice spc 68 capc) cl
  hp : OwnHv w0 (w.heap.size + 3) (.slice spp 2 capp) pl
  i : w.heap.size + 3 ≤ gp ∧ gp < gs ∧ gs < w0.heap.size
/-- behind it -/
structure SpZ (w : World) (d r : List Int) (l : Int) (gp gs : Nat) (spc spp : Option Addr) (capc capp : Nat) (cl pl : List (List Int)) (w0 : World) : Prop where
  dd : w0.heap[w.heap.size + 1]? = some (.cells (dgA d) 25 (0, 0))
  pp : w0.heap[gp]? = some (.cells (pkA 2 r) 31 (0, 0))
  ss : w0.heap[gs]? = some (.cells (siA l (.slice spc 68 capc) (.slice spp 2 capp)) 37 (0, 0))
  hc : HvsIn w0 w0.heap.size spc 68 capc cl
  hp : HvsIn w0 w0.heap.size spp 2 capp pl
  b : Below w.heap.size w w0
  i : w.heap.size + 3 ≤ gp ∧ gp < gs ∧ gs < w0.heap.size
  r16 : H16 r
  d32 : D32 d
theorem SpZ.below {w : World} {d r : List Int} {l : Int} {gp gs : Nat} {spc spp : Option Addr} {capc capp : Nat} {cl pl : List (List Int)} {w1 w2 : World} (z : SpZ w d r l gp gs spc spp capc capp cl pl w1) (hb : Below w1.heap.size w1 w2) : SpZ w d r l gp gs spc spp capc capp cl pl w2 := by
  have h1 := z.i; have h2 := hb.size
  exact ⟨(hb.block _ (by omega)).trans z.dd, (hb.block _ (by omega)).trans z.pp, (hb.block _ (by omega)).trans z.ss, (z.hc.below hb (Nat.le_refl _)).more h2, (z.hp.below hb (Nat.le_refl _)).more h2, z.b.trans (hb.mono (by omega)), by omega, z.r16, z.d32⟩
/-- a byte of a list is changed -/
theorem SpA.poke {w : World} {x d r : List Int} {part idx by8 l : Int} {gp gs : Nat} {spc spp : Option Addr} {capc capp : Nat} {cl pl : List (List Int)} {v : World} (a : SpA w x d r part idx by8 l gp gs spc spp capc capp cl pl v) (hcl : cl.length = 68) (hpl : pl.length = 2) (hr : H16 r) (hd : D32 d) (g o : Nat) (u : Int) (hu : 0 ≤ u ∧ u < 256)
    (h1 : w.heap.size + 1 ≠ g) (h2 : gp ≠ g) (h3 : gs ≠ g) (h4 : w.heap.size ≤ g) : ∃ d r l cl pl, Hid (SpZ w d r l gp gs spc spp capc capp cl pl ((World.drew v).setCell ⟨g, o, none⟩ (.int .u8 u))) := by
  obtain ⟨cl', hc'⟩ := ((a.hc.hvs hcl).below (Below.refl v.heap.size v).drew (Nat.le_refl _)).poke ⟨g, o, none⟩ u hu
  obtain ⟨pl', hp'⟩ := ((a.hp.hvs hpl).below (Below.refl v.heap.size v).drew (Nat.le_refl _)).poke ⟨g, o, none⟩ u hu
  have hs : v.heap.size ≤ ((World.drew v).setCell ⟨g, o, none⟩ (.int .u8 u)).heap.size := by simp [World.setCell]
  exact ⟨d, r, l, cl', pl', ⟨(heap_setCell_other _ _ _ _ h1).trans a.bx.d, (heap_setCell_other _ _ _ _ h2).trans a.p, (heap_setCell_other _ _ _ _ h3).trans a.s, hc'.more hs, hp'.more hs, a.bx.b.drew.setCell h4 _, by have := a.i; omega, hr, hd⟩⟩
/-- the leaf is changed -/
theorem SpA.leaf {w : World} {x d r : List Int} {part idx by8 l : Int} {gp gs : Nat} {spc spp : Option Addr} {capc capp : Nat} {cl pl : List (List Int)} {v : World} (a : SpA w x d r part idx by8 l gp gs spc spp capc capp cl pl v) (hcl : cl.length = 68) (hpl : pl.length = 2) (hr : H16 r) (hd : D32 d) (L : Int) :
    ∃ d r l cl pl, Hid (SpZ w d r l gp gs spc spp capc capp cl pl (v.setCell ⟨gs, 0, none⟩ (.int .i64 L))) := by
  have hs : (v.setCell ⟨gs, 0, none⟩ (.int .i64 L)).heap.size = v.heap.size := by simp [World.setCell]
  have hi := a.i
  refine ⟨d, r, L, cl, pl, ⟨(heap_setCell_other _ _ _ _ (by show w.heap.size + 1 ≠ gs; omega)).trans a.bx.d, (heap_setCell_other _ _ _ _ (by show gp ≠ gs; omega)).trans a.p, ?_, (a.hc.setCell a.s ne_si _ _).hvs hcl, (a.hp.setCell a.s ne_si _ _).hvs hpl, a.bx.b.setCell (by show w.heap.size ≤ gs; omega) _, by omega, hr, hd⟩⟩
  rw [heap_setCell_same _ _ _ _ _ _ a.s]; rfl
theorem ne_pk : 31 ≠ 23 := by decide
theorem ne_dg : 25 ≠ 23 := by decide
/-- the digest is changed -/
theorem SpA.dig {w : World} {x d r : List Int} {part idx by8 l : Int} {gp gs : Nat} {spc spp : Option Addr} {capc capp : Nat} {cl pl : List (List Int)} {v : World} (a : SpA w x d r part idx by8 l gp gs spc spp capc capp cl pl v) (hcl : cl.length = 68) (hpl : pl.length = 2) (hr : H16 r) (hd : D32 d) (j : Nat) (u : Int) (hu : 0 ≤ u ∧ u < 256) :
    ∃ d r l cl pl, Hid (SpZ w d r l gp gs spc spp capc capp cl pl (World.drew (v.setCell ⟨w.heap.size + 1, j, none⟩ (.int .u8 u)))) := by
  have hs : (v.setCell ⟨w.heap.size + 1, j, none⟩ (.int .u8 u)).heap.size = v.heap.size := by simp [World.setCell]
  have hi := a.i
  have hb : Below (v.setCell ⟨w.heap.size + 1, j, none⟩ (.int .u8 u)).heap.size (v.setCell ⟨w.heap.size + 1, j, none⟩ (.int .u8 u)) (World.drew (v.setCell ⟨w.heap.size + 1, j, none⟩ (.int .u8 u))) := (Below.refl _ _).drew
  refine ⟨d.set j u, r, l, cl, pl, SpZ.below ⟨?_, (heap_setCell_other _ _ _ _ (by show gp ≠ w.heap.size + 1; omega)).trans a.p, (heap_setCell_other _ _ _ _ (by show gs ≠ w.heap.size + 1; omega)).trans a.s, (a.hc.setCell a.bx.d ne_dg _ _).hvs hcl, (a.hp.setCell a.bx.d ne_dg _ _).hvs hpl, a.bx.b.setCell (by show w.heap.size ≤ w.heap.size + 1; omega) _, by omega, hr, hd.put j hu⟩ hb⟩
  rw [heap_setCell_same _ _ _ _ _ _ a.bx.d, dgA_set]
/-- the root is changed -/
theorem SpA.root {w : World} {x d r : List Int} {part idx by8 l : Int} {gp gs : Nat} {spc spp : Option Addr} {capc capp : Nat} {cl pl : List (List Int)} {v : World} (a : SpA w x d r part idx by8 l gp gs spc spp capc capp cl pl v) (hcl : cl.length = 68) (hpl : pl.length = 2) (hr : H16 r) (hd : D32 d) (j : Nat) (u : Int) (hu : 0 ≤ u ∧ u < 256) :
    ∃ d r l cl pl, Hid (SpZ w d r l gp gs spc spp capc capp cl pl (World.drew (v.setCell ⟨gp, 1 + j, none⟩ (.int .u8 u)))) := by
  have hs : (v.setCell ⟨gp, 1 + j, none⟩ (.int .u8 u)).heap.size = v.heap.size := by simp [World.setCell]
  have hi := a.i
  have hb : Below (v.setCell ⟨gp, 1 + j, none⟩ (.int .u8 u)).heap.size (v.setCell ⟨gp, 1 + j, none⟩ (.int .u8 u)) (World.drew (v.setCell ⟨gp, 1 + j, none⟩ (.int .u8 u))) := (Below.refl _ _).drew
  refine ⟨d, r.set j u, l, cl, pl, SpZ.below ⟨(heap_setCell_other _ _ _ _ (by show w.heap.size + 1 ≠ gp; omega)).trans a.bx.d, ?_, (heap_setCell_other _ _ _ _ (by show gs ≠ gp; omega)).trans a.s, (a.hc.setCell a.p ne_pk _ _).hvs hcl, (a.hp.setCell a.p ne_pk _ _).hvs hpl, a.bx.b.setCell (by show w.heap.size ≤ gp; omega) _, by omega, hr.put j hu, hd⟩ hb⟩
  rw [heap_setCell_same _ _ _ _ _ _ a.p, Nat.add_comm 1 j, pkA_set]
set_option maxRecDepth 100000 in
set_option maxHeartbeats 8000000 in
theorem keytreeSpoils_any (x d : List Int) (part idx by8 : Int) (w : World) (hx : H16 x) (hd : D32 d) (hk : KayIn w) (hk0 : 1 < w.heap.size) :
    Calls Tryd.prog 3 #[.agg (hvA x), .agg (dgA d), .agg (cgA part idx by8)] w fun e w' => e = .returned (.bool true) ∧ Below w.heap.size w w' := by
  have HX := Lib.hid hx; have HD := Lib.hid hd; have HK := Lib.hid hk
  clear hx hd hk
  obtain ⟨leaf, hleaf⟩ : ∃ n : Nat, idx % 4 = (n : Int) := ⟨(idx % 4).toNat, by omega⟩
  obtain ⟨k, hkk⟩ : ∃ n : Nat, idx % 68 = (n : Int) := ⟨(idx % 68).toNat, by omega⟩
  have hleaf4 : leaf < 2 ^ 2 := by show leaf < 4; omega
  have hk68 : k < 68 := by omega
  have m4 : (wrap64 (Int.tmod idx 4 + 4)).tmod 4 = (leaf : Int) := by rw [mdK 4 (by omega) (by omega), hleaf]
  have m68 : (wrap64 (Int.tmod idx 68 + 68)).tmod 68 = (k : Int) := by rw [mdK 68 (by omega) (by omega), hkk]
  have m5 : (wrap64 (Int.tmod part 5 + 5)).tmod 5 = part % 5 := mdK 5 (by omega) (by omega) part
  clear hleaf hkk
  have HNK := Lib.hid (nodK_H16 x 2 0)
  have HT := Lib.hid (SpBox.new w x d part idx by8)
  go_enter Tryd.func3, Tryd.ntmps3
  go_upto_region 1 with (fail)
  generalize hw0 : World.alloc (World.alloc (World.alloc w _) _) _ = w0
  have HT0 : Hid (SpBox w x d part idx by8 w0) := by rw [← hw0]; exact HT.out
  clear hw0 HT
  have c1 := cg_i HT0.out.c
  have HZS := Lib.hid (SgBox.new w0 zh16 0 0)
  have HRS := Lib.hid (SgBox.new w0 x 2 leaf)
  go_wp2_with (first
    | (refine wpList_load_row rfl 23 _ rfl w.heap.size rfl 23 _ (0, 0) _ HT0.out.x Tryd.underlying23 rfl (info_h HX.out) ?_)
    | (refine wpList_build_eqG rfl 29 [(0, .tmp 14), (1, .const (.int .i64 2)), (2, .tmp 19)] rfl [(0, .agg (hvA x)), (1, .int .i64 2), (2, .int .i64 (leaf : Int))] rfl _ (buildSgN x 2 leaf HX.out _) ?_)
    | (refine wpList_store_row rfl 29 _ _ rfl w0.heap.size (sgA x 2 leaf) rfl rfl 29 _ HZS.out.s (info_sg HX.out) (by rw [sgA_size HX.out, sgA_size zh16_H16]) (one_sg _ _ _) ?_; rw [setRow_new]; generalize hw1 : World.alloc w0 _ = w1; have HS1 : Hid (SgBox w0 x 2 leaf w1) := (by rw [← hw1]; exact HRS.out); clear hw1 HZS HRS; have HT1 : Hid (SpBox w x d part idx by8 w1) := HT0.out.below HS1.out.b)
    | (refine wpList_load_row rfl 23 _ rfl w.heap.size rfl 23 _ (0, 0) _ HT1.out.x Tryd.underlying23 rfl (info_h HX.out) ?_))
  have HSg1 : Hid (w1.heap[w0.heap.size]? = some (.cells (sgA x 2 leaf) 29 (0, 0))) := HS1.out.s
  have hs0 := HT0.out.k
  have hs1 : w0.heap.size + 1 ≤ w1.heap.size := Nat.le_of_eq HS1.out.z.symm
  clear c1 HS1 HT0
  generalize w0.heap.size = ga at *
  refine (rnew_any x 2 w1 HX.out (by omega)).mono ?_
  rintro e w2 ⟨rfl, hb⟩
  have HT2 : Hid (SpBox w x d part idx by8 w2) := HT1.out.below hb
  have HSg2 : Hid (w2.heap[ga]? = some (.cells (sgA x 2 leaf) 29 (0, 0))) := (hb.block _ (by omega)).trans HSg1.out
  have hs2 : ga + 1 ≤ w2.heap.size := by have := hb.size; omega
  clear hb HT1 HSg1 hs1
  generalize nodK x 2 0 = r at *
  have HZP := Lib.hid (PkRow.new w2 0 zh16)
  have HRP := Lib.hid (PkRow.new w2 2 r)
  go_wp2_with (first
    | (refine wpList_store_row rfl 31 _ _ rfl w2.heap.size _ rfl rfl 31 _ HZP.out.k (info_pk HNK.out) (by rw [pkA_size HNK.out]; rfl) (one_pk _ _) ?_; rw [setRow_new]; generalize hw3 : World.alloc w2 _ = w3; have HP3 : Hid (PkRow w2 2 r w3) := (by rw [← hw3]; exact HRP.out); clear hw3 HZP HRP; have HT3 : Hid (SpBox w x d part idx by8 w3) := HT2.out.below HP3.out.b; have HSg3 : Hid (w3.heap[ga]? = some (.cells (sgA x 2 leaf) 29 (0, 0))) := ((HP3.out.b.block _ (by omega)).trans HSg2.out))
    | (refine wpList_load_row rfl 29 _ rfl ga rfl 29 _ (0, 0) _ HSg3.out Tryd.underlying29 rfl (info_sg HX.out) ?_)
    | (refine wpList_load_row rfl 25 _ rfl (w.heap.size + 1) rfl 25 _ (0, 0) _ HT3.out.d Tryd.underlying25 rfl (info_dA HD.out) ?_))
  have HPk3 : Hid (w3.heap[w2.heap.size]? = some (.cells (pkA 2 r) 31 (0, 0))) := HP3.out.k
  have hs3 : w2.heap.size + 1 ≤ w3.heap.size := Nat.le_of_eq HP3.out.s.symm
  clear HSg2 HSg3 HT2 HP3
  have hgp : w.heap.size + 3 ≤ w2.heap.size := by omega
  generalize w2.heap.size = gp at *
  refine (rsign_ok x 2 leaf d w3 HX.out HD.out (by omega) hleaf4).mono ?_
  rintro e w4 ⟨spc, capc, spp, capp, rfl, hc, hp, hb⟩
  have HC3 : Hid (OwnHv w4 (w.heap.size + 3) (.slice spc 68 capc) (sigB x leaf d)) := hc.base (by omega)
  have HP3 : Hid (OwnHv w4 (w.heap.size + 3) (.slice spp 2 capp) (pathB x 2 leaf)) := hp.base (by omega)
  have HT4 : Hid (SpBox w x d part idx by8 w4) := HT3.out.below hb
  have HPk4 : Hid (w4.heap[gp]? = some (.cells (pkA 2 r) 31 (0, 0))) := (hb.block _ (by omega)).trans HPk3.out
  have hs4 : gp + 1 ≤ w4.heap.size := by have := hb.size; omega
  clear hc hp hb HT3 HPk3 hs3
  have HCL : Hid ((sigB x leaf d).length = 68) := sigB_len _ _ _
  have HPL : Hid ((pathB x 2 leaf).length = 2) := pathB_len _ _ _
  generalize sigB x (leaf : Int) d = cl at *
  generalize pathB x 2 leaf = pl at *
  have HZZ := Lib.hid (ZzBox.new w4)
  have HIS : Hid (w4.heap.size + 1 ≠ w4.heap.size) := by show _ ≠ _; omega
  go_upto_region 4 with (first
    | (generalize hz : World.alloc (World.alloc w4 _) _ = wz; have HZ4 : Hid (ZzBox w4 wz) := (by rw [← hz]; exact HZZ.out); clear hz HZZ; have HC4 : Hid (OwnHv wz (w.heap.size + 3) (.slice spc 68 capc) cl) := HC3.out.below HZ4.out.b; have HP4 : Hid (OwnHv wz (w.heap.size + 3) (.slice spp 2 capp) pl) := HP3.out.below HZ4.out.b; refine wpList_store_row rfl 29 _ _ rfl w4.heap.size (sgA x 2 (leaf + 1)) rfl rfl 29 _ HZ4.out.y (info_sg HX.out) (by rw [sgA_size HX.out, sgA_size zh16_H16]) (one_sg _ _ _) ?_; generalize hw5 : World.setRow wz _ _ = w5; have HZ5 : Hid (w5.heap[w4.heap.size + 1]? = some (.cells (siA 0 nilS nilS) 37 (0, 0))) := (by rw [← hw5]; exact (setRow_other _ _ _ _ HIS.out).trans HZ4.out.z); have HB5 : Hid (Below w4.heap.size w4 w5) := (by rw [← hw5]; exact below_setRow HZ4.out.b (Nat.le_refl _) _); have HC5 : Hid (OwnHv w5 (w.heap.size + 3) (.slice spc 68 capc) cl) := (by rw [← hw5]; exact HC4.out.setRow HZ4.out.y ne_sg _); have HP5 : Hid (OwnHv w5 (w.heap.size + 3) (.slice spp 2 capp) pl) := (by rw [← hw5]; exact HP4.out.setRow HZ4.out.y ne_sg _); have hz5 : w4.heap.size + 2 ≤ w5.heap.size := (by rw [← hw5]; simp [World.setRow]; have := HZ4.out.k; omega); have HY6 : Hid True := trivial; clear hw5 HC4 HP4 HZ4)
    | (refine wpList_store_row rfl 37 _ _ rfl (w4.heap.size + 1) (siA leaf (.slice spc 68 capc) (.slice spp 2 capp)) rfl rfl 37 _ HZ5.out (info_si _ _ _) rfl (one_si _ _ _ _ _ _ _) ?_; generalize hw6 : World.setRow w5 _ _ = w6; have HZ6 : Hid (w6.heap[w4.heap.size + 1]? = some (.cells (siA leaf (.slice spc 68 capc) (.slice spp 2 capp)) 37 (0, 0))) := (by rw [← hw6]; exact setRow_heap _ _ _ _ _ _ HZ5.out); have HB6 : Hid (Below w4.heap.size w4 w6) := (by rw [← hw6]; exact below_setRow HB5.out (Nat.le_succ _) _); have HC6 : Hid (OwnHv w6 (w.heap.size + 3) (.slice spc 68 capc) cl) := (by rw [← hw6]; exact HC5.out.setRow HZ5.out ne_si _); have HP6 : Hid (OwnHv w6 (w.heap.size + 3) (.slice spp 2 capp) pl) := (by rw [← hw6]; exact HP5.out.setRow HZ5.out ne_si _); have hz6 : w4.heap.size + 2 ≤ w6.heap.size := (by rw [← hw6]; simp [World.setRow]; omega); clear hw6 HZ5 HB5 HC5 HP5 hz5))
  have HA : Hid (SpA w x d r part idx by8 leaf gp (w4.heap.size + 1) spc spp capc capp cl pl w6) := ⟨HT4.out.below HB6.out, (HB6.out.block _ (by omega)).trans HPk4.out, HZ6.out, HC6.out, HP6.out, ⟨hgp, by omega, by omega⟩⟩
  clear HT4 HPk4 HC3 HP3 HIS HY6 HZ6 HB6 HC6 HP6 hz6
  generalize w4.heap.size + 1 = gs at *
  generalize w6 = v at *
  have c0 := cg_p HA.out.bx.c
  have c1 := cg_i HA.out.bx.c
  have hi := HA.out.i
  have hkx := HA.out.bx.k
  have p1 : (0 : Int) ≤ (k : Int) := by omega
  have p2 : (k : Int) < 68 := by omega
  by_cases e0 : part % 5 = 0
  · have q0 : (part % 5 == 0) = true := by simpa using e0
    obtain ⟨j, hj⟩ : ∃ j : Nat, k % 16 = j := ⟨_, rfl⟩
    have hj16 : j < 16 := by omega
    have j1 : Int.tmod (k : Int) 16 = (j : Int) := by rw [Int.tmod_eq_emod_of_nonneg (by omega)]; omega
    have j2 : (0 : Int) ≤ (j : Int) := by omega
    have j3 : (j : Int) < 16 := by omega
    clear hj
    obtain ⟨g, cur, hsp, hg0, hg1, hcap⟩ := HA.out.hc.at68 (by decide)
    have HG1 := Lib.hid hg1; have HSP := Lib.hid hsp
    clear hsp
    have hne1 : w.heap.size + 1 ≠ g := by omega
    have hne0 : w.heap.size + 1 + 1 ≠ g := by omega
    have hne2 : gp ≠ g := by
      intro e; subst e; have h1 := HA.out.p; rw [hg1] at h1; injection h1 with h1; injection h1 with h1 h2; exact absurd h2 (by decide)
    have hne3 : gs ≠ g := by
      intro e; subst e; have h1 := HA.out.s; rw [hg1] at h1; injection h1 with h1; injection h1 with h1 h2; exact absurd h2 (by decide)
    clear hg1
    obtain ⟨b, o, e, _, _, hrr⟩ := (HA.out.hc.hvs HCL.out).cells (by decide)
    rw [HSP.out] at e
    injection e with e; injection e with e1' e2'
    subst e1' e2'
    have cB := hrr k (by omega) j _ (getD_at (l := cl.getD k []) (by rw [((HA.out.hc.hvs HCL.out).at16 (by omega)).1]; exact hj16))
    rw [Nat.zero_add] at cB
    clear hrr
    generalize (cl.getD k []).getD j 0 = b0 at cB
    have fB := frozen_of_row _ _ (k * 16 + j) _ _ HG1.out
    have p3 : (68 : Int) ≤ (capc : Int) := by omega
    go_upto_region 8 with (fail)
    clear c0 c1 m4 m68 m5
    refine wp_region_held_drew (S := fun w' => w'.heap[gs]? = some (.cells (siA leaf (.slice spc 68 capc) (.slice spp 2 capp)) 37 (0, 0)) ∧ w'.heap[w.heap.size + 1 + 1]? = some (.cells (cgA part idx by8) 27 (0, 0))) (by kernel_rfl) ⟨HA.out.s, HA.out.bx.c⟩ (fun hHeld => ?_)
    refine wpAnyH_take (i := 0) (oi := _) (v := ?v0n1) rfl (by kernel_rfl) (by kernel_rfl) (by kernel_rfl) (fun _ _ _ h => h) (Or.inl ⟨by rfl, ?hy0n1⟩) (by assumption) ?rest0n1
    case hy0n1 =>
      intro w' hSw
      go_simp
      try with_reducible rfl
    try simp only [Act.put, List.getElem_toArray, List.getElem_cons_succ, List.getElem_cons_zero, List.setIfInBounds_toArray, List.set_cons_zero, List.set_cons_succ]
    refine wpAnyH_take (i := 1) (oi := _) (v := ?v1n2) rfl (by kernel_rfl) (by kernel_rfl) (by kernel_rfl) (fun _ _ _ h => h) (Or.inl ⟨by rfl, ?hy1n2⟩) (by assumption) ?rest1n2
    case hy1n2 =>
      intro w' hSw
      have c1 := si_c hSw.1; rw [HSP.out] at c1
      go_simp
      try with_reducible rfl
    try simp only [Act.put, List.getElem_toArray, List.getElem_cons_succ, List.getElem_cons_zero, List.setIfInBounds_toArray, List.set_cons_zero, List.set_cons_succ]
    refine wpAnyH_take (i := 2) (oi := _) (v := ?v2n3) rfl (by kernel_rfl) (by kernel_rfl) (by kernel_rfl) (fun _ _ _ h => h) (Or.inl ⟨by rfl, ?hy2n3⟩) (by assumption) ?rest2n3
    case hy2n3 =>
      intro w' hSw
      go_simp
      try with_reducible rfl
    try simp only [Act.put, List.getElem_toArray, List.getElem_cons_succ, List.getElem_cons_zero, List.setIfInBounds_toArray, List.set_cons_zero, List.set_cons_succ]
    refine wpAnyH_take (i := 3) (oi := _) (v := ?v3n4) rfl (by kernel_rfl) (by kernel_rfl) (by kernel_rfl) (fun _ _ _ h => h) (Or.inl ⟨by rfl, ?hy3n4⟩) (by assumption) ?rest3n4
    case hy3n4 =>
      intro w' hSw
      go_simp
      try with_reducible rfl
    try simp only [Act.put, List.getElem_toArray, List.getElem_cons_succ, List.getElem_cons_zero, List.setIfInBounds_toArray, List.set_cons_zero, List.set_cons_succ]
    refine wpAnyH_take (i := 4) (oi := _) (v := ?v4n5) rfl (by kernel_rfl) (by kernel_rfl) (by kernel_rfl) (fun _ _ _ h => h) (Or.inl ⟨by rfl, ?hy4n5⟩) (by assumption) ?rest4n5
    case hy4n5 =>
      intro w' hSw
      go_simp
      try with_reducible rfl
    try simp only [Act.put, List.getElem_toArray, List.getElem_cons_succ, List.getElem_cons_zero, List.setIfInBounds_toArray, List.set_cons_zero, List.set_cons_succ]
    refine wpAnyH_take (i := 5) (oi := _) (v := ?v5n6) rfl (by kernel_rfl) (by kernel_rfl) (by kernel_rfl) (fun _ _ _ h => h) (Or.inl ⟨by rfl, ?hy5n6⟩) (by assumption) ?rest5n6
    case hy5n6 =>
      intro w' hSw
      go_simp
      try with_reducible rfl
    try simp only [Act.put, List.getElem_toArray, List.getElem_cons_succ, List.getElem_cons_zero, List.setIfInBounds_toArray, List.set_cons_zero, List.set_cons_succ]
    refine wpAnyH_take (i := 6) (oi := _) (v := ?v6n7) rfl (by kernel_rfl) (by kernel_rfl) (by kernel_rfl) (fun _ _ _ h => h) (Or.inl ⟨by rfl, ?hy6n7⟩) (by assumption) ?rest6n7
    case hy6n7 =>
      intro w' hSw
      go_simp
      try with_reducible rfl
    try simp only [Act.put, List.getElem_toArray, List.getElem_cons_succ, List.getElem_cons_zero, List.setIfInBounds_toArray, List.set_cons_zero, List.set_cons_succ]
    refine wpAnyH_take (i := 8) (oi := _) (v := ?v8n8) rfl (by kernel_rfl) (by kernel_rfl) (by kernel_rfl) (fun _ _ _ h => h) (Or.inl ⟨by rfl, ?hy8n8⟩) (by assumption) ?rest8n8
    case hy8n8 =>
      intro w' hSw
      go_simp
      try with_reducible rfl
    try simp only [Act.put, List.getElem_toArray, List.getElem_cons_succ, List.getElem_cons_zero, List.setIfInBounds_toArray, List.set_cons_zero, List.set_cons_succ]
    refine wpAnyH_take (i := 9) (oi := _) (v := ?v9n9) rfl (by kernel_rfl) (by kernel_rfl) (by kernel_rfl) (fun _ _ _ h => h) (Or.inl ⟨by rfl, ?hy9n9⟩) (by assumption) ?rest9n9
    case hy9n9 =>
      intro w' hSw
      have c1 := cg_b hSw.2
      go_simp
      try with_reducible rfl
    try simp only [Act.put, List.getElem_toArray, List.getElem_cons_succ, List.getElem_cons_zero, List.setIfInBounds_toArray, List.set_cons_zero, List.set_cons_succ]
    refine wpAnyH_take (i := 11) (oi := _) (v := ?v11n10) rfl (by kernel_rfl) (by kernel_rfl) (by kernel_rfl) (fun _ _ _ h => h) (Or.inl ⟨by rfl, ?hy11n10⟩) (by assumption) ?rest11n10
    case hy11n10 =>
      intro w' hSw
      go_simp
      try with_reducible rfl
    try simp only [Act.put, List.getElem_toArray, List.getElem_cons_succ, List.getElem_cons_zero, List.setIfInBounds_toArray, List.set_cons_zero, List.set_cons_succ]
    refine wpAnyH_ready (rs := [7]) (by kernel_rfl) (by simp) (AllReadyH.cons (o := _) rfl (fun K hK => ?_) AllReadyH.nil)
    go_simp
    refine hK.out _ _ ⟨HA.out.s, HA.out.bx.c⟩ (fun hHeld => ?_)
    clear hK K
    try simp only [Act.put, List.getElem_toArray, List.getElem_cons_succ, List.getElem_cons_zero, List.setIfInBounds_toArray, List.set_cons_zero, List.set_cons_succ]
    refine wpAnyH_take (i := 10) (oi := _) (v := ?v10n11) rfl (by kernel_rfl) (by kernel_rfl) (by kernel_rfl) (fun _ _ _ h => h) (Or.inl ⟨by rfl, ?hy10n11⟩) (by assumption) ?rest10n11
    case hy10n11 =>
      intro w' hSw
      go_simp
      try with_reducible rfl
    try simp only [Act.put, List.getElem_toArray, List.getElem_cons_succ, List.getElem_cons_zero, List.setIfInBounds_toArray, List.set_cons_zero, List.set_cons_succ]
    refine wpAnyH_take (i := 12) (oi := _) (v := ?v12n12) rfl (by kernel_rfl) (by kernel_rfl) (by kernel_rfl) (fun _ _ _ h => h) (Or.inl ⟨by rfl, ?hy12n12⟩) (by assumption) ?rest12n12
    case hy12n12 =>
      intro w' hSw
      go_simp
      try with_reducible rfl
    try simp only [Act.put, List.getElem_toArray, List.getElem_cons_succ, List.getElem_cons_zero, List.setIfInBounds_toArray, List.set_cons_zero, List.set_cons_succ]
    refine wpAnyH_ready (rs := [13]) (by kernel_rfl) (by simp) (AllReadyH.cons (o := _) rfl (fun K hK => ?_) AllReadyH.nil)
    go_simp
    skip
    have hz : ∃ d r l cl pl, Hid (SpZ w d r l gp gs spc spp capc capp cl pl (World.drew (World.setCell v ⟨g, k * 16 + j, none⟩ (.int .u8 (bits .xor .u8 b0 by8))))) := HA.out.poke HCL.out HPL.out HNK.out HD.out g _ _ (xor_byt _ _) hne1 hne2 hne3 (by omega)
    refine hK.out _ _ ⟨(heap_setCell_other _ _ _ _ hne3).trans HA.out.s, (heap_setCell_other _ _ _ _ hne0).trans HA.out.bx.c⟩ (fun hHeld => ?_)
    clear hK K hHeld
    try simp only [Act.put, List.getElem_toArray, List.getElem_cons_succ, List.getElem_cons_zero, List.setIfInBounds_toArray, List.set_cons_zero, List.set_cons_succ]
    refine wpAnyH_done (by kernel_rfl) ?_ _
    go_wp2_with fail
    try clear e0
    try clear e1
    try clear e2
    try clear e3
    generalize World.drew (World.setCell _ _ _) = v0 at *
    clear HA
    obtain ⟨d, r, l, cl, pl, HZ⟩ := hz
    have HZv0 : Hid (SpZ w d r l gp gs spc spp capc capp cl pl v0) := HZ.out
    have HCA := Lib.hid (fun w' (hb : Below w.heap.size w w') (hz : 1 < w'.heap.size) => awake_any w' (HK.out.below hb hk0) hz)
    have HCV := Lib.hid (fun w' (z : SpZ w d r l gp gs spc spp capc capp cl pl w') => (show Calls Tryd.prog 9 #[.agg (pkL 2 r).toArray, .agg (d.map (Value.int .u8)).toArray, .agg (siL l (.slice spc 68 capc) (.slice spp 2 capp)).toArray] w' fun e w'' => e = .returned (.bool (vfyB 2 r d l 68 2 cl pl)) ∧ Below w'.heap.size w' w'' from verify_any 2 r d l spc 68 capc spp 2 capp cl pl w' z.r16 z.d32 z.hc z.hp (HK.out.below z.b hk0) (by have := z.b.size; omega)))
    have HCW := Lib.hid (fun w' (z : SpZ w d r l gp gs spc spp capc capp cl pl w') => (show Calls Tryd.prog 10 #[.agg (pkL 2 r).toArray, .agg (d.map (Value.int .u8)).toArray, .agg (siL l (.slice spc 68 capc) (.slice spp 2 capp)).toArray] w' fun e w'' => e = .returned (.bool (vfyB 2 r d l 68 2 cl pl)) ∧ Below w'.heap.size w' w'' from rverify_any 2 r d l spc 68 capc spp 2 capp cl pl w' z.r16 z.d32 z.hc z.hp))
    go_upto_region 15 with (fail)
    refine wp_region_held_drew (S := fun w' => w'.heap[gp]? = some (.cells (pkA 2 r) 31 (0, 0)) ∧ w'.heap[w.heap.size + 1]? = some (.cells (dgA d) 25 (0, 0)) ∧ w'.heap[gs]? = some (.cells (siA l (.slice spc 68 capc) (.slice spp 2 capp)) 37 (0, 0))) (by kernel_rfl) ⟨HZv0.out.pp, HZv0.out.dd, HZv0.out.ss⟩ (fun hHeld => ?_)
    refine wpAnyH_ready (rs := [0]) (by kernel_rfl) (by simp) (AllReadyH.cons (o := _) rfl (fun K hK => ?_) AllReadyH.nil)
    go_simp
    with_reducible refine (HCA.out _ HZv0.out.b.drew (Nat.lt_of_lt_of_le hk0 HZv0.out.b.drew.size)).mono ?_
    rintro e v1 ⟨rfl, hb⟩
    have HZv1 : Hid (SpZ w d r l gp gs spc spp capc capp cl pl v1) := HZv0.out.below ((Below.refl _ _).drew.trans hb)
    clear hb
    go_wp2_with fail
    refine hK.out _ _ ⟨HZv1.out.pp, HZv1.out.dd, HZv1.out.ss⟩ (fun hHeld => ?_)
    clear hK K
    try simp only [Act.put, List.getElem_toArray, List.getElem_cons_succ, List.getElem_cons_zero, List.setIfInBounds_toArray, List.set_cons_zero, List.set_cons_succ]
    refine wpAnyH_take (i := 1) (oi := _) (v := ?v1n13) rfl (by kernel_rfl) (by kernel_rfl) (by kernel_rfl) (fun _ _ _ h => h) (Or.inl ⟨by rfl, ?hy1n13⟩) (by assumption) ?rest1n13
    case hy1n13 =>
      intro w' hSw
      go_simp
      try with_reducible rfl
    try simp only [Act.put, List.getElem_toArray, List.getElem_cons_succ, List.getElem_cons_zero, List.setIfInBounds_toArray, List.set_cons_zero, List.set_cons_succ]
    refine' wpAnyH_take (i := 2) (oi := _) (v := _) rfl (by kernel_rfl) (by kernel_rfl) (by kernel_rfl) (fun _ _ _ h => h) (yieldsIf_load_mid (by rfl) _ _ rfl _ _ rfl _ _ ?hS2n14 Tryd.underlying31 rfl (info_pkL HZ.out.r16)) (by assumption) ?rest2n14
    case hS2n14 =>
      intro w' hSw
      exact row_rngK (L := pkL 2 r) hSw.1
    try simp only [Act.put, List.getElem_toArray, List.getElem_cons_succ, List.getElem_cons_zero, List.setIfInBounds_toArray, List.set_cons_zero, List.set_cons_succ]
    refine' wpAnyH_take (i := 3) (oi := _) (v := _) rfl (by kernel_rfl) (by kernel_rfl) (by kernel_rfl) (fun _ _ _ h => h) (yieldsIf_load_mid (by rfl) _ _ rfl _ _ rfl _ _ ?hS3n15 Tryd.underlying25 rfl (info_d HZ.out.d32)) (by assumption) ?rest3n15
    case hS3n15 =>
      intro w' hSw
      exact row_rngK hSw.2.1
    try simp only [Act.put, List.getElem_toArray, List.getElem_cons_succ, List.getElem_cons_zero, List.setIfInBounds_toArray, List.set_cons_zero, List.set_cons_succ]
    refine' wpAnyH_take (i := 4) (oi := _) (v := _) rfl (by kernel_rfl) (by kernel_rfl) (by kernel_rfl) (fun _ _ _ h => h) (yieldsIf_load_mid (by rfl) _ _ rfl _ _ rfl _ _ ?hS4n16 Tryd.underlying37 rfl (info_siL l (.slice spc 68 capc) (.slice spp 2 capp))) (by assumption) ?rest4n16
    case hS4n16 =>
      intro w' hSw
      exact row_rngK (L := siL l (.slice spc 68 capc) (.slice spp 2 capp)) hSw.2.2
    try simp only [Act.put, List.getElem_toArray, List.getElem_cons_succ, List.getElem_cons_zero, List.setIfInBounds_toArray, List.set_cons_zero, List.set_cons_succ]
    refine' wpAnyH_take (i := 6) (oi := _) (v := _) rfl (by kernel_rfl) (by kernel_rfl) (by kernel_rfl) (fun _ _ _ h => h) (yieldsIf_load_mid (by rfl) _ _ rfl _ _ rfl _ _ ?hS6n17 Tryd.underlying31 rfl (info_pkL HZ.out.r16)) (by assumption) ?rest6n17
    case hS6n17 =>
      intro w' hSw
      exact row_rngK (L := pkL 2 r) hSw.1
    try simp only [Act.put, List.getElem_toArray, List.getElem_cons_succ, List.getElem_cons_zero, List.setIfInBounds_toArray, List.set_cons_zero, List.set_cons_succ]
    refine' wpAnyH_take (i := 7) (oi := _) (v := _) rfl (by kernel_rfl) (by kernel_rfl) (by kernel_rfl) (fun _ _ _ h => h) (yieldsIf_load_mid (by rfl) _ _ rfl _ _ rfl _ _ ?hS7n18 Tryd.underlying25 rfl (info_d HZ.out.d32)) (by assumption) ?rest7n18
    case hS7n18 =>
      intro w' hSw
      exact row_rngK hSw.2.1
    try simp only [Act.put, List.getElem_toArray, List.getElem_cons_succ, List.getElem_cons_zero, List.setIfInBounds_toArray, List.set_cons_zero, List.set_cons_succ]
    refine' wpAnyH_take (i := 8) (oi := _) (v := _) rfl (by kernel_rfl) (by kernel_rfl) (by kernel_rfl) (fun _ _ _ h => h) (yieldsIf_load_mid (by rfl) _ _ rfl _ _ rfl _ _ ?hS8n19 Tryd.underlying37 rfl (info_siL l (.slice spc 68 capc) (.slice spp 2 capp))) (by assumption) ?rest8n19
    case hS8n19 =>
      intro w' hSw
      exact row_rngK (L := siL l (.slice spc 68 capc) (.slice spp 2 capp)) hSw.2.2
    try simp only [Act.put, List.getElem_toArray, List.getElem_cons_succ, List.getElem_cons_zero, List.setIfInBounds_toArray, List.set_cons_zero, List.set_cons_succ]
    refine wpAnyH_ready (rs := [5]) (by kernel_rfl) (by simp) (AllReadyH.cons (o := _) rfl (fun K hK => ?_) AllReadyH.nil)
    go_simp
    with_reducible refine (HCV.out _ HZv1.out).mono ?_
    rintro e v2 ⟨rfl, hb⟩
    have HZv2 : Hid (SpZ w d r l gp gs spc spp capc capp cl pl v2) := HZv1.out.below hb
    clear hb
    go_wp2_with fail
    refine hK.out _ _ ⟨HZv2.out.pp, HZv2.out.dd, HZv2.out.ss⟩ (fun hHeld => ?_)
    clear hK K
    try simp only [Act.put, List.getElem_toArray, List.getElem_cons_succ, List.getElem_cons_zero, List.setIfInBounds_toArray, List.set_cons_zero, List.set_cons_succ]
    refine wpAnyH_ready (rs := [9]) (by kernel_rfl) (by simp) (AllReadyH.cons (o := _) rfl (fun K hK => ?_) AllReadyH.nil)
    go_simp
    with_reducible refine (HCW.out _ HZv2.out).mono ?_
    rintro e v3 ⟨rfl, hb⟩
    have HZv3 : Hid (SpZ w d r l gp gs spc spp capc capp cl pl v3) := HZv2.out.below hb
    clear hb
    go_wp2_with fail
    refine hK.out _ _ ⟨HZv3.out.pp, HZv3.out.dd, HZv3.out.ss⟩ (fun hHeld => ?_)
    clear hK K
    try simp only [Act.put, List.getElem_toArray, List.getElem_cons_succ, List.getElem_cons_zero, List.setIfInBounds_toArray, List.set_cons_zero, List.set_cons_succ]
    refine wpAnyH_take (i := 10) (oi := _) (v := ?v10n20) rfl (by kernel_rfl) (by kernel_rfl) (by kernel_rfl) (fun _ _ _ h => h) (Or.inl ⟨by rfl, ?hy10n20⟩) (by assumption) ?rest10n20
    case hy10n20 =>
      intro w' hSw
      go_simp
      try with_reducible rfl
    try simp only [Act.put, List.getElem_toArray, List.getElem_cons_succ, List.getElem_cons_zero, List.setIfInBounds_toArray, List.set_cons_zero, List.set_cons_succ]
    refine wpAnyH_take (i := 11) (oi := _) (v := ?v11n21) rfl (by kernel_rfl) (by kernel_rfl) (by kernel_rfl) (fun _ _ _ h => h) (Or.inl ⟨by rfl, ?hy11n21⟩) (by assumption) ?rest11n21
    case hy11n21 =>
      intro w' hSw
      go_simp
      try with_reducible rfl
    try simp only [Act.put, List.getElem_toArray, List.getElem_cons_succ, List.getElem_cons_zero, List.setIfInBounds_toArray, List.set_cons_zero, List.set_cons_succ]
    refine wpAnyH_take (i := 12) (oi := _) (v := ?v12n22) rfl (by kernel_rfl) (by kernel_rfl) (by kernel_rfl) (fun _ _ _ h => h) (Or.inl ⟨by rfl, ?hy12n22⟩) (by assumption) ?rest12n22
    case hy12n22 =>
      intro w' hSw
      go_simp
      try with_reducible rfl
    try simp only [Act.put, List.getElem_toArray, List.getElem_cons_succ, List.getElem_cons_zero, List.setIfInBounds_toArray, List.set_cons_zero, List.set_cons_succ]
    refine wpAnyH_done (by kernel_rfl) ?_ _
    go_wp2_with fail
    go_ret
    exact ⟨rfl, HZv3.out.b⟩
  · by_cases e1 : part % 5 = 1
    · have q0 : (part % 5 == 0) = false := by simpa using e0
      have q1 : (part % 5 == 1) = true := by simpa using e1
      obtain ⟨j, hj⟩ : ∃ j : Nat, k % 16 = j := ⟨_, rfl⟩
      have hj16 : j < 16 := by omega
      have j1 : Int.tmod (k : Int) 16 = (j : Int) := by rw [Int.tmod_eq_emod_of_nonneg (by omega)]; omega
      have j2 : (0 : Int) ≤ (j : Int) := by omega
      have j3 : (j : Int) < 16 := by omega
      clear hj
      obtain ⟨i2, hi2⟩ : ∃ j : Nat, k % 2 = j := ⟨_, rfl⟩
      have hi2lt : i2 < 2 := by omega
      have i1 : Int.tmod (k : Int) 2 = (i2 : Int) := by rw [Int.tmod_eq_emod_of_nonneg (by omega)]; omega
      have i2a : (0 : Int) ≤ (i2 : Int) := by omega
      have i3 : (i2 : Int) < 2 := by omega
      clear hi2
      obtain ⟨g, cur, hsp, hg0, hg1, hcap⟩ := HA.out.hp.at68 (by decide)
      have HG1 := Lib.hid hg1; have HSP := Lib.hid hsp
      clear hsp
      have hne1 : w.heap.size + 1 ≠ g := by omega
      have hne0 : w.heap.size + 1 + 1 ≠ g := by omega
      have hne2 : gp ≠ g := by
        intro e; subst e; have h1 := HA.out.p; rw [hg1] at h1; injection h1 with h1; injection h1 with h1 h2; exact absurd h2 (by decide)
      have hne3 : gs ≠ g := by
        intro e; subst e; have h1 := HA.out.s; rw [hg1] at h1; injection h1 with h1; injection h1 with h1 h2; exact absurd h2 (by decide)
      clear hg1
      obtain ⟨b, o, e, _, _, hrr⟩ := (HA.out.hp.hvs HPL.out).cells (by decide)
      rw [HSP.out] at e
      injection e with e; injection e with e1' e2'
      subst e1' e2'
      have cB := hrr i2 (by omega) j _ (getD_at (l := pl.getD i2 []) (by rw [((HA.out.hp.hvs HPL.out).at16 (by omega)).1]; exact hj16))
      rw [Nat.zero_add] at cB
      clear hrr
      generalize (pl.getD i2 []).getD j 0 = b0 at cB
      have fB := frozen_of_row _ _ (i2 * 16 + j) _ _ HG1.out
      have p3 : (2 : Int) ≤ (capp : Int) := by omega
      go_upto_region 10 with (fail)
      clear c0 c1 m4 m68 m5
      refine wp_region_held_drew (S := fun w' => w'.heap[gs]? = some (.cells (siA leaf (.slice spc 68 capc) (.slice spp 2 capp)) 37 (0, 0)) ∧ w'.heap[w.heap.size + 1 + 1]? = some (.cells (cgA part idx by8) 27 (0, 0))) (by kernel_rfl) ⟨HA.out.s, HA.out.bx.c⟩ (fun hHeld => ?_)
      refine wpAnyH_take (i := 0) (oi := _) (v := ?v0n23) rfl (by kernel_rfl) (by kernel_rfl) (by kernel_rfl) (fun _ _ _ h => h) (Or.inl ⟨by rfl, ?hy0n23⟩) (by assumption) ?rest0n23
      case hy0n23 =>
        intro w' hSw
        go_simp
        try with_reducible rfl
      try simp only [Act.put, List.getElem_toArray, List.getElem_cons_succ, List.getElem_cons_zero, List.setIfInBounds_toArray, List.set_cons_zero, List.set_cons_succ]
      refine wpAnyH_take (i := 1) (oi := _) (v := ?v1n24) rfl (by kernel_rfl) (by kernel_rfl) (by kernel_rfl) (fun _ _ _ h => h) (Or.inl ⟨by rfl, ?hy1n24⟩) (by assumption) ?rest1n24
      case hy1n24 =>
        intro w' hSw
        have c1 := si_p hSw.1; rw [HSP.out] at c1
        go_simp
        try with_reducible rfl
      try simp only [Act.put, List.getElem_toArray, List.getElem_cons_succ, List.getElem_cons_zero, List.setIfInBounds_toArray, List.set_cons_zero, List.set_cons_succ]
      refine wpAnyH_take (i := 2) (oi := _) (v := ?v2n25) rfl (by kernel_rfl) (by kernel_rfl) (by kernel_rfl) (fun _ _ _ h => h) (Or.inl ⟨by rfl, ?hy2n25⟩) (by assumption) ?rest2n25
      case hy2n25 =>
        intro w' hSw
        go_simp
        try with_reducible rfl
      try simp only [Act.put, List.getElem_toArray, List.getElem_cons_succ, List.getElem_cons_zero, List.setIfInBounds_toArray, List.set_cons_zero, List.set_cons_succ]
      refine wpAnyH_take (i := 3) (oi := _) (v := ?v3n26) rfl (by kernel_rfl) (by kernel_rfl) (by kernel_rfl) (fun _ _ _ h => h) (Or.inl ⟨by rfl, ?hy3n26⟩) (by assumption) ?rest3n26
      case hy3n26 =>
        intro w' hSw
        go_simp
        try with_reducible rfl
      try simp only [Act.put, List.getElem_toArray, List.getElem_cons_succ, List.getElem_cons_zero, List.setIfInBounds_toArray, List.set_cons_zero, List.set_cons_succ]
      refine wpAnyH_take (i := 4) (oi := _) (v := ?v4n27) rfl (by kernel_rfl) (by kernel_rfl) (by kernel_rfl) (fun _ _ _ h => h) (Or.inl ⟨by rfl, ?hy4n27⟩) (by assumption) ?rest4n27
      case hy4n27 =>
        intro w' hSw
        go_simp
        try with_reducible rfl
      try simp only [Act.put, List.getElem_toArray, List.getElem_cons_succ, List.getElem_cons_zero, List.setIfInBounds_toArray, List.set_cons_zero, List.set_cons_succ]
      refine wpAnyH_take (i := 5) (oi := _) (v := ?v5n28) rfl (by kernel_rfl) (by kernel_rfl) (by kernel_rfl) (fun _ _ _ h => h) (Or.inl ⟨by rfl, ?hy5n28⟩) (by assumption) ?rest5n28
      case hy5n28 =>
        intro w' hSw
        go_simp
        try with_reducible rfl
      try simp only [Act.put, List.getElem_toArray, List.getElem_cons_succ, List.getElem_cons_zero, List.setIfInBounds_toArray, List.set_cons_zero, List.set_cons_succ]
      refine wpAnyH_take (i := 6) (oi := _) (v := ?v6n29) rfl (by kernel_rfl) (by kernel_rfl) (by kernel_rfl) (fun _ _ _ h => h) (Or.inl ⟨by rfl, ?hy6n29⟩) (by assumption) ?rest6n29
      case hy6n29 =>
        intro w' hSw
        go_simp
        try with_reducible rfl
      try simp only [Act.put, List.getElem_toArray, List.getElem_cons_succ, List.getElem_cons_zero, List.setIfInBounds_toArray, List.set_cons_zero, List.set_cons_succ]
      refine wpAnyH_take (i := 7) (oi := _) (v := ?v7n30) rfl (by kernel_rfl) (by kernel_rfl) (by kernel_rfl) (fun _ _ _ h => h) (Or.inl ⟨by rfl, ?hy7n30⟩) (by assumption) ?rest7n30
      case hy7n30 =>
        intro w' hSw
        go_simp
        try with_reducible rfl
      try simp only [Act.put, List.getElem_toArray, List.getElem_cons_succ, List.getElem_cons_zero, List.setIfInBounds_toArray, List.set_cons_zero, List.set_cons_succ]
      refine wpAnyH_take (i := 9) (oi := _) (v := ?v9n31) rfl (by kernel_rfl) (by kernel_rfl) (by kernel_rfl) (fun _ _ _ h => h) (Or.inl ⟨by rfl, ?hy9n31⟩) (by assumption) ?rest9n31
      case hy9n31 =>
        intro w' hSw
        go_simp
        try with_reducible rfl
      try simp only [Act.put, List.getElem_toArray, List.getElem_cons_succ, List.getElem_cons_zero, List.setIfInBounds_toArray, List.set_cons_zero, List.set_cons_succ]
      refine wpAnyH_take (i := 10) (oi := _) (v := ?v10n32) rfl (by kernel_rfl) (by kernel_rfl) (by kernel_rfl) (fun _ _ _ h => h) (Or.inl ⟨by rfl, ?hy10n32⟩) (by assumption) ?rest10n32
      case hy10n32 =>
        intro w' hSw
        have c1 := cg_b hSw.2
        go_simp
        try with_reducible rfl
      try simp only [Act.put, List.getElem_toArray, List.getElem_cons_succ, List.getElem_cons_zero, List.setIfInBounds_toArray, List.set_cons_zero, List.set_cons_succ]
      refine wpAnyH_take (i := 12) (oi := _) (v := ?v12n33) rfl (by kernel_rfl) (by kernel_rfl) (by kernel_rfl) (fun _ _ _ h => h) (Or.inl ⟨by rfl, ?hy12n33⟩) (by assumption) ?rest12n33
      case hy12n33 =>
        intro w' hSw
        go_simp
        try with_reducible rfl
      try simp only [Act.put, List.getElem_toArray, List.getElem_cons_succ, List.getElem_cons_zero, List.setIfInBounds_toArray, List.set_cons_zero, List.set_cons_succ]
      refine wpAnyH_ready (rs := [8]) (by kernel_rfl) (by simp) (AllReadyH.cons (o := _) rfl (fun K hK => ?_) AllReadyH.nil)
      go_simp
      refine hK.out _ _ ⟨HA.out.s, HA.out.bx.c⟩ (fun hHeld => ?_)
      clear hK K
      try simp only [Act.put, List.getElem_toArray, List.getElem_cons_succ, List.getElem_cons_zero, List.setIfInBounds_toArray, List.set_cons_zero, List.set_cons_succ]
      refine wpAnyH_take (i := 11) (oi := _) (v := ?v11n34) rfl (by kernel_rfl) (by kernel_rfl) (by kernel_rfl) (fun _ _ _ h => h) (Or.inl ⟨by rfl, ?hy11n34⟩) (by assumption) ?rest11n34
      case hy11n34 =>
        intro w' hSw
        go_simp
        try with_reducible rfl
      try simp only [Act.put, List.getElem_toArray, List.getElem_cons_succ, List.getElem_cons_zero, List.setIfInBounds_toArray, List.set_cons_zero, List.set_cons_succ]
      refine wpAnyH_take (i := 13) (oi := _) (v := ?v13n35) rfl (by kernel_rfl) (by kernel_rfl) (by kernel_rfl) (fun _ _ _ h => h) (Or.inl ⟨by rfl, ?hy13n35⟩) (by assumption) ?rest13n35
      case hy13n35 =>
        intro w' hSw
        go_simp
        try with_reducible rfl
      try simp only [Act.put, List.getElem_toArray, List.getElem_cons_succ, List.getElem_cons_zero, List.setIfInBounds_toArray, List.set_cons_zero, List.set_cons_succ]
      refine wpAnyH_ready (rs := [14]) (by kernel_rfl) (by simp) (AllReadyH.cons (o := _) rfl (fun K hK => ?_) AllReadyH.nil)
      go_simp
      skip
      have hz : ∃ d r l cl pl, Hid (SpZ w d r l gp gs spc spp capc capp cl pl (World.drew (World.setCell v ⟨g, i2 * 16 + j, none⟩ (.int .u8 (bits .xor .u8 b0 by8))))) := HA.out.poke HCL.out HPL.out HNK.out HD.out g _ _ (xor_byt _ _) hne1 hne2 hne3 (by omega)
      refine hK.out _ _ ⟨(heap_setCell_other _ _ _ _ hne3).trans HA.out.s, (heap_setCell_other _ _ _ _ hne0).trans HA.out.bx.c⟩ (fun hHeld => ?_)
      clear hK K hHeld
      try simp only [Act.put, List.getElem_toArray, List.getElem_cons_succ, List.getElem_cons_zero, List.setIfInBounds_toArray, List.set_cons_zero, List.set_cons_succ]
      refine wpAnyH_done (by kernel_rfl) ?_ _
      go_wp2_with fail
      try clear e0
      try clear e1
      try clear e2
      try clear e3
      generalize World.drew (World.setCell _ _ _) = v0 at *
      clear HA
      obtain ⟨d, r, l, cl, pl, HZ⟩ := hz
      have HZv0 : Hid (SpZ w d r l gp gs spc spp capc capp cl pl v0) := HZ.out
      have HCA := Lib.hid (fun w' (hb : Below w.heap.size w w') (hz : 1 < w'.heap.size) => awake_any w' (HK.out.below hb hk0) hz)
      have HCV := Lib.hid (fun w' (z : SpZ w d r l gp gs spc spp capc capp cl pl w') => (show Calls Tryd.prog 9 #[.agg (pkL 2 r).toArray, .agg (d.map (Value.int .u8)).toArray, .agg (siL l (.slice spc 68 capc) (.slice spp 2 capp)).toArray] w' fun e w'' => e = .returned (.bool (vfyB 2 r d l 68 2 cl pl)) ∧ Below w'.heap.size w' w'' from verify_any 2 r d l spc 68 capc spp 2 capp cl pl w' z.r16 z.d32 z.hc z.hp (HK.out.below z.b hk0) (by have := z.b.size; omega)))
      have HCW := Lib.hid (fun w' (z : SpZ w d r l gp gs spc spp capc capp cl pl w') => (show Calls Tryd.prog 10 #[.agg (pkL 2 r).toArray, .agg (d.map (Value.int .u8)).toArray, .agg (siL l (.slice spc 68 capc) (.slice spp 2 capp)).toArray] w' fun e w'' => e = .returned (.bool (vfyB 2 r d l 68 2 cl pl)) ∧ Below w'.heap.size w' w'' from rverify_any 2 r d l spc 68 capc spp 2 capp cl pl w' z.r16 z.d32 z.hc z.hp))
      go_upto_region 15 with (fail)
      refine wp_region_held_drew (S := fun w' => w'.heap[gp]? = some (.cells (pkA 2 r) 31 (0, 0)) ∧ w'.heap[w.heap.size + 1]? = some (.cells (dgA d) 25 (0, 0)) ∧ w'.heap[gs]? = some (.cells (siA l (.slice spc 68 capc) (.slice spp 2 capp)) 37 (0, 0))) (by kernel_rfl) ⟨HZv0.out.pp, HZv0.out.dd, HZv0.out.ss⟩ (fun hHeld => ?_)
      refine wpAnyH_ready (rs := [0]) (by kernel_rfl) (by simp) (AllReadyH.cons (o := _) rfl (fun K hK => ?_) AllReadyH.nil)
      go_simp
      with_reducible refine (HCA.out _ HZv0.out.b.drew (Nat.lt_of_lt_of_le hk0 HZv0.out.b.drew.size)).mono ?_
      rintro e v1 ⟨rfl, hb⟩
      have HZv1 : Hid (SpZ w d r l gp gs spc spp capc capp cl pl v1) := HZv0.out.below ((Below.refl _ _).drew.trans hb)
      clear hb
      go_wp2_with fail
      refine hK.out _ _ ⟨HZv1.out.pp, HZv1.out.dd, HZv1.out.ss⟩ (fun hHeld => ?_)
      clear hK K
      try simp only [Act.put, List.getElem_toArray, List.getElem_cons_succ, List.getElem_cons_zero, List.setIfInBounds_toArray, List.set_cons_zero, List.set_cons_succ]
      refine wpAnyH_take (i := 1) (oi := _) (v := ?v1n36) rfl (by kernel_rfl) (by kernel_rfl) (by kernel_rfl) (fun _ _ _ h => h) (Or.inl ⟨by rfl, ?hy1n36⟩) (by assumption) ?rest1n36
      case hy1n36 =>
        intro w' hSw
        go_simp
        try with_reducible rfl
      try simp only [Act.put, List.getElem_toArray, List.getElem_cons_succ, List.getElem_cons_zero, List.setIfInBounds_toArray, List.set_cons_zero, List.set_cons_succ]
      refine' wpAnyH_take (i := 2) (oi := _) (v := _) rfl (by kernel_rfl) (by kernel_rfl) (by kernel_rfl) (fun _ _ _ h => h) (yieldsIf_load_mid (by rfl) _ _ rfl _ _ rfl _ _ ?hS2n37 Tryd.underlying31 rfl (info_pkL HZ.out.r16)) (by assumption) ?rest2n37
      case hS2n37 =>
        intro w' hSw
        exact row_rngK (L := pkL 2 r) hSw.1
      try simp only [Act.put, List.getElem_toArray, List.getElem_cons_succ, List.getElem_cons_zero, List.setIfInBounds_toArray, List.set_cons_zero, List.set_cons_succ]
      refine' wpAnyH_take (i := 3) (oi := _) (v := _) rfl (by kernel_rfl) (by kernel_rfl) (by kernel_rfl) (fun _ _ _ h => h) (yieldsIf_load_mid (by rfl) _ _ rfl _ _ rfl _ _ ?hS3n38 Tryd.underlying25 rfl (info_d HZ.out.d32)) (by assumption) ?rest3n38
      case hS3n38 =>
        intro w' hSw
        exact row_rngK hSw.2.1
      try simp only [Act.put, List.getElem_toArray, List.getElem_cons_succ, List.getElem_cons_zero, List.setIfInBounds_toArray, List.set_cons_zero, List.set_cons_succ]
      refine' wpAnyH_take (i := 4) (oi := _) (v := _) rfl (by kernel_rfl) (by kernel_rfl) (by kernel_rfl) (fun _ _ _ h => h) (yieldsIf_load_mid (by rfl) _ _ rfl _ _ rfl _ _ ?hS4n39 Tryd.underlying37 rfl (info_siL l (.slice spc 68 capc) (.slice spp 2 capp))) (by assumption) ?rest4n39
      case hS4n39 =>
        intro w' hSw
        exact row_rngK (L := siL l (.slice spc 68 capc) (.slice spp 2 capp)) hSw.2.2
      try simp only [Act.put, List.getElem_toArray, List.getElem_cons_succ, List.getElem_cons_zero, List.setIfInBounds_toArray, List.set_cons_zero, List.set_cons_succ]
      refine' wpAnyH_take (i := 6) (oi := _) (v := _) rfl (by kernel_rfl) (by kernel_rfl) (by kernel_rfl) (fun _ _ _ h => h) (yieldsIf_load_mid (by rfl) _ _ rfl _ _ rfl _ _ ?hS6n40 Tryd.underlying31 rfl (info_pkL HZ.out.r16)) (by assumption) ?rest6n40
      case hS6n40 =>
        intro w' hSw
        exact row_rngK (L := pkL 2 r) hSw.1
      try simp only [Act.put, List.getElem_toArray, List.getElem_cons_succ, List.getElem_cons_zero, List.setIfInBounds_toArray, List.set_cons_zero, List.set_cons_succ]
      refine' wpAnyH_take (i := 7) (oi := _) (v := _) rfl (by kernel_rfl) (by kernel_rfl) (by kernel_rfl) (fun _ _ _ h => h) (yieldsIf_load_mid (by rfl) _ _ rfl _ _ rfl _ _ ?hS7n41 Tryd.underlying25 rfl (info_d HZ.out.d32)) (by assumption) ?rest7n41
      case hS7n41 =>
        intro w' hSw
        exact row_rngK hSw.2.1
      try simp only [Act.put, List.getElem_toArray, List.getElem_cons_succ, List.getElem_cons_zero, List.setIfInBounds_toArray, List.set_cons_zero, List.set_cons_succ]
      refine' wpAnyH_take (i := 8) (oi := _) (v := _) rfl (by kernel_rfl) (by kernel_rfl) (by kernel_rfl) (fun _ _ _ h => h) (yieldsIf_load_mid (by rfl) _ _ rfl _ _ rfl _ _ ?hS8n42 Tryd.underlying37 rfl (info_siL l (.slice spc 68 capc) (.slice spp 2 capp))) (by assumption) ?rest8n42
      case hS8n42 =>
        intro w' hSw
        exact row_rngK (L := siL l (.slice spc 68 capc) (.slice spp 2 capp)) hSw.2.2
      try simp only [Act.put, List.getElem_toArray, List.getElem_cons_succ, List.getElem_cons_zero, List.setIfInBounds_toArray, List.set_cons_zero, List.set_cons_succ]
      refine wpAnyH_ready (rs := [5]) (by kernel_rfl) (by simp) (AllReadyH.cons (o := _) rfl (fun K hK => ?_) AllReadyH.nil)
      go_simp
      with_reducible refine (HCV.out _ HZv1.out).mono ?_
      rintro e v2 ⟨rfl, hb⟩
      have HZv2 : Hid (SpZ w d r l gp gs spc spp capc capp cl pl v2) := HZv1.out.below hb
      clear hb
      go_wp2_with fail
      refine hK.out _ _ ⟨HZv2.out.pp, HZv2.out.dd, HZv2.out.ss⟩ (fun hHeld => ?_)
      clear hK K
      try simp only [Act.put, List.getElem_toArray, List.getElem_cons_succ, List.getElem_cons_zero, List.setIfInBounds_toArray, List.set_cons_zero, List.set_cons_succ]
      refine wpAnyH_ready (rs := [9]) (by kernel_rfl) (by simp) (AllReadyH.cons (o := _) rfl (fun K hK => ?_) AllReadyH.nil)
      go_simp
      with_reducible refine (HCW.out _ HZv2.out).mono ?_
      rintro e v3 ⟨rfl, hb⟩
      have HZv3 : Hid (SpZ w d r l gp gs spc spp capc capp cl pl v3) := HZv2.out.below hb
      clear hb
      go_wp2_with fail
      refine hK.out _ _ ⟨HZv3.out.pp, HZv3.out.dd, HZv3.out.ss⟩ (fun hHeld => ?_)
      clear hK K
      try simp only [Act.put, List.getElem_toArray, List.getElem_cons_succ, List.getElem_cons_zero, List.setIfInBounds_toArray, List.set_cons_zero, List.set_cons_succ]
      refine wpAnyH_take (i := 10) (oi := _) (v := ?v10n43) rfl (by kernel_rfl) (by kernel_rfl) (by kernel_rfl) (fun _ _ _ h => h) (Or.inl ⟨by rfl, ?hy10n43⟩) (by assumption) ?rest10n43
      case hy10n43 =>
        intro w' hSw
        go_simp
        try with_reducible rfl
      try simp only [Act.put, List.getElem_toArray, List.getElem_cons_succ, List.getElem_cons_zero, List.setIfInBounds_toArray, List.set_cons_zero, List.set_cons_succ]
      refine wpAnyH_take (i := 11) (oi := _) (v := ?v11n44) rfl (by kernel_rfl) (by kernel_rfl) (by kernel_rfl) (fun _ _ _ h => h) (Or.inl ⟨by rfl, ?hy11n44⟩) (by assumption) ?rest11n44
      case hy11n44 =>
        intro w' hSw
        go_simp
        try with_reducible rfl
      try simp only [Act.put, List.getElem_toArray, List.getElem_cons_succ, List.getElem_cons_zero, List.setIfInBounds_toArray, List.set_cons_zero, List.set_cons_succ]
      refine wpAnyH_take (i := 12) (oi := _) (v := ?v12n45) rfl (by kernel_rfl) (by kernel_rfl) (by kernel_rfl) (fun _ _ _ h => h) (Or.inl ⟨by rfl, ?hy12n45⟩) (by assumption) ?rest12n45
      case hy12n45 =>
        intro w' hSw
        go_simp
        try with_reducible rfl
      try simp only [Act.put, List.getElem_toArray, List.getElem_cons_succ, List.getElem_cons_zero, List.setIfInBounds_toArray, List.set_cons_zero, List.set_cons_succ]
      refine wpAnyH_done (by kernel_rfl) ?_ _
      go_wp2_with fail
      go_ret
      exact ⟨rfl, HZv3.out.b⟩
    · by_cases e2 : part % 5 = 2
      · have q0 : (part % 5 == 0) = false := by simpa using e0
        have q1 : (part % 5 == 1) = false := by simpa using e1
        have q2 : (part % 5 == 2) = true := by simpa using e2
        have k2 := si_l HA.out.s
        have f2 := frozen_of_row _ _ 0 _ _ HA.out.s
        have cb := cg_b HA.out.bx.c
        have hzz := Lib.hid (fun L => HA.out.leaf HCL.out HPL.out HNK.out HD.out L)
        go_upto_region 15 with (fail)
        clear c0 c1 m4 m68 m5 k2 f2 cb
        generalize hw : World.setCell v _ _ = v0
        have hz : ∃ d r l cl pl, Hid (SpZ w d r l gp gs spc spp capc capp cl pl v0) := by rw [← hw]; exact hzz.out _
        clear hw hzz HA e0 e1 e2
        obtain ⟨d, r, l, cl, pl, HZ⟩ := hz
        have HZv0 : Hid (SpZ w d r l gp gs spc spp capc capp cl pl v0) := HZ.out
        have HCA := Lib.hid (fun w' (hb : Below w.heap.size w w') (hz : 1 < w'.heap.size) => awake_any w' (HK.out.below hb hk0) hz)
        have HCV := Lib.hid (fun w' (z : SpZ w d r l gp gs spc spp capc capp cl pl w') => (show Calls Tryd.prog 9 #[.agg (pkL 2 r).toArray, .agg (d.map (Value.int .u8)).toArray, .agg (siL l (.slice spc 68 capc) (.slice spp 2 capp)).toArray] w' fun e w'' => e = .returned (.bool (vfyB 2 r d l 68 2 cl pl)) ∧ Below w'.heap.size w' w'' from verify_any 2 r d l spc 68 capc spp 2 capp cl pl w' z.r16 z.d32 z.hc z.hp (HK.out.below z.b hk0) (by have := z.b.size; omega)))
        have HCW := Lib.hid (fun w' (z : SpZ w d r l gp gs spc spp capc capp cl pl w') => (show Calls Tryd.prog 10 #[.agg (pkL 2 r).toArray, .agg (d.map (Value.int .u8)).toArray, .agg (siL l (.slice spc 68 capc) (.slice spp 2 capp)).toArray] w' fun e w'' => e = .returned (.bool (vfyB 2 r d l 68 2 cl pl)) ∧ Below w'.heap.size w' w'' from rverify_any 2 r d l spc 68 capc spp 2 capp cl pl w' z.r16 z.d32 z.hc z.hp))
        skip
        refine wp_region_held_drew (S := fun w' => w'.heap[gp]? = some (.cells (pkA 2 r) 31 (0, 0)) ∧ w'.heap[w.heap.size + 1]? = some (.cells (dgA d) 25 (0, 0)) ∧ w'.heap[gs]? = some (.cells (siA l (.slice spc 68 capc) (.slice spp 2 capp)) 37 (0, 0))) (by kernel_rfl) ⟨HZv0.out.pp, HZv0.out.dd, HZv0.out.ss⟩ (fun hHeld => ?_)
        refine wpAnyH_ready (rs := [0]) (by kernel_rfl) (by simp) (AllReadyH.cons (o := _) rfl (fun K hK => ?_) AllReadyH.nil)
        go_simp
        with_reducible refine (HCA.out _ HZv0.out.b.drew (Nat.lt_of_lt_of_le hk0 HZv0.out.b.drew.size)).mono ?_
        rintro e v1 ⟨rfl, hb⟩
        have HZv1 : Hid (SpZ w d r l gp gs spc spp capc capp cl pl v1) := HZv0.out.below ((Below.refl _ _).drew.trans hb)
        clear hb
        go_wp2_with fail
        refine hK.out _ _ ⟨HZv1.out.pp, HZv1.out.dd, HZv1.out.ss⟩ (fun hHeld => ?_)
        clear hK K
        try simp only [Act.put, List.getElem_toArray, List.getElem_cons_succ, List.getElem_cons_zero, List.setIfInBounds_toArray, List.set_cons_zero, List.set_cons_succ]
        refine wpAnyH_take (i := 1) (oi := _) (v := ?v1n46) rfl (by kernel_rfl) (by kernel_rfl) (by kernel_rfl) (fun _ _ _ h => h) (Or.inl ⟨by rfl, ?hy1n46⟩) (by assumption) ?rest1n46
        case hy1n46 =>
          intro w' hSw
          go_simp
          try with_reducible rfl
        try simp only [Act.put, List.getElem_toArray, List.getElem_cons_succ, List.getElem_cons_zero, List.setIfInBounds_toArray, List.set_cons_zero, List.set_cons_succ]
        refine' wpAnyH_take (i := 2) (oi := _) (v := _) rfl (by kernel_rfl) (by kernel_rfl) (by kernel_rfl) (fun _ _ _ h => h) (yieldsIf_load_mid (by rfl) _ _ rfl _ _ rfl _ _ ?hS2n47 Tryd.underlying31 rfl (info_pkL HZ.out.r16)) (by assumption) ?rest2n47
        case hS2n47 =>
          intro w' hSw
          exact row_rngK (L := pkL 2 r) hSw.1
        try simp only [Act.put, List.getElem_toArray, List.getElem_cons_succ, List.getElem_cons_zero, List.setIfInBounds_toArray, List.set_cons_zero, List.set_cons_succ]
        refine' wpAnyH_take (i := 3) (oi := _) (v := _) rfl (by kernel_rfl) (by kernel_rfl) (by kernel_rfl) (fun _ _ _ h => h) (yieldsIf_load_mid (by rfl) _ _ rfl _ _ rfl _ _ ?hS3n48 Tryd.underlying25 rfl (info_d HZ.out.d32)) (by assumption) ?rest3n48
        case hS3n48 =>
          intro w' hSw
          exact row_rngK hSw.2.1
        try simp only [Act.put, List.getElem_toArray, List.getElem_cons_succ, List.getElem_cons_zero, List.setIfInBounds_toArray, List.set_cons_zero, List.set_cons_succ]
        refine' wpAnyH_take (i := 4) (oi := _) (v := _) rfl (by kernel_rfl) (by kernel_rfl) (by kernel_rfl) (fun _ _ _ h => h) (yieldsIf_load_mid (by rfl) _ _ rfl _ _ rfl _ _ ?hS4n49 Tryd.underlying37 rfl (info_siL l (.slice spc 68 capc) (.slice spp 2 capp))) (by assumption) ?rest4n49
        case hS4n49 =>
          intro w' hSw
          exact row_rngK (L := siL l (.slice spc 68 capc) (.slice spp 2 capp)) hSw.2.2
        try simp only [Act.put, List.getElem_toArray, List.getElem_cons_succ, List.getElem_cons_zero, List.setIfInBounds_toArray, List.set_cons_zero, List.set_cons_succ]
        refine' wpAnyH_take (i := 6) (oi := _) (v := _) rfl (by kernel_rfl) (by kernel_rfl) (by kernel_rfl) (fun _ _ _ h => h) (yieldsIf_load_mid (by rfl) _ _ rfl _ _ rfl _ _ ?hS6n50 Tryd.underlying31 rfl (info_pkL HZ.out.r16)) (by assumption) ?rest6n50
        case hS6n50 =>
          intro w' hSw
          exact row_rngK (L := pkL 2 r) hSw.1
        try simp only [Act.put, List.getElem_toArray, List.getElem_cons_succ, List.getElem_cons_zero, List.setIfInBounds_toArray, List.set_cons_zero, List.set_cons_succ]
        refine' wpAnyH_take (i := 7) (oi := _) (v := _) rfl (by kernel_rfl) (by kernel_rfl) (by kernel_rfl) (fun _ _ _ h => h) (yieldsIf_load_mid (by rfl) _ _ rfl _ _ rfl _ _ ?hS7n51 Tryd.underlying25 rfl (info_d HZ.out.d32)) (by assumption) ?rest7n51
        case hS7n51 =>
          intro w' hSw
          exact row_rngK hSw.2.1
        try simp only [Act.put, List.getElem_toArray, List.getElem_cons_succ, List.getElem_cons_zero, List.setIfInBounds_toArray, List.set_cons_zero, List.set_cons_succ]
        refine' wpAnyH_take (i := 8) (oi := _) (v := _) rfl (by kernel_rfl) (by kernel_rfl) (by kernel_rfl) (fun _ _ _ h => h) (yieldsIf_load_mid (by rfl) _ _ rfl _ _ rfl _ _ ?hS8n52 Tryd.underlying37 rfl (info_siL l (.slice spc 68 capc) (.slice spp 2 capp))) (by assumption) ?rest8n52
        case hS8n52 =>
          intro w' hSw
          exact row_rngK (L := siL l (.slice spc 68 capc) (.slice spp 2 capp)) hSw.2.2
        try simp only [Act.put, List.getElem_toArray, List.getElem_cons_succ, List.getElem_cons_zero, List.setIfInBounds_toArray, List.set_cons_zero, List.set_cons_succ]
        refine wpAnyH_ready (rs := [5]) (by kernel_rfl) (by simp) (AllReadyH.cons (o := _) rfl (fun K hK => ?_) AllReadyH.nil)
        go_simp
        with_reducible refine (HCV.out _ HZv1.out).mono ?_
        rintro e v2 ⟨rfl, hb⟩
        have HZv2 : Hid (SpZ w d r l gp gs spc spp capc capp cl pl v2) := HZv1.out.below hb
        clear hb
        go_wp2_with fail
        refine hK.out _ _ ⟨HZv2.out.pp, HZv2.out.dd, HZv2.out.ss⟩ (fun hHeld => ?_)
        clear hK K
        try simp only [Act.put, List.getElem_toArray, List.getElem_cons_succ, List.getElem_cons_zero, List.setIfInBounds_toArray, List.set_cons_zero, List.set_cons_succ]
        refine wpAnyH_ready (rs := [9]) (by kernel_rfl) (by simp) (AllReadyH.cons (o := _) rfl (fun K hK => ?_) AllReadyH.nil)
        go_simp
        with_reducible refine (HCW.out _ HZv2.out).mono ?_
        rintro e v3 ⟨rfl, hb⟩
        have HZv3 : Hid (SpZ w d r l gp gs spc spp capc capp cl pl v3) := HZv2.out.below hb
        clear hb
        go_wp2_with fail
        refine hK.out _ _ ⟨HZv3.out.pp, HZv3.out.dd, HZv3.out.ss⟩ (fun hHeld => ?_)
        clear hK K
        try simp only [Act.put, List.getElem_toArray, List.getElem_cons_succ, List.getElem_cons_zero, List.setIfInBounds_toArray, List.set_cons_zero, List.set_cons_succ]
        refine wpAnyH_take (i := 10) (oi := _) (v := ?v10n53) rfl (by kernel_rfl) (by kernel_rfl) (by kernel_rfl) (fun _ _ _ h => h) (Or.inl ⟨by rfl, ?hy10n53⟩) (by assumption) ?rest10n53
        case hy10n53 =>
          intro w' hSw
          go_simp
          try with_reducible rfl
        try simp only [Act.put, List.getElem_toArray, List.getElem_cons_succ, List.getElem_cons_zero, List.setIfInBounds_toArray, List.set_cons_zero, List.set_cons_succ]
        refine wpAnyH_take (i := 11) (oi := _) (v := ?v11n54) rfl (by kernel_rfl) (by kernel_rfl) (by kernel_rfl) (fun _ _ _ h => h) (Or.inl ⟨by rfl, ?hy11n54⟩) (by assumption) ?rest11n54
        case hy11n54 =>
          intro w' hSw
          go_simp
          try with_reducible rfl
        try simp only [Act.put, List.getElem_toArray, List.getElem_cons_succ, List.getElem_cons_zero, List.setIfInBounds_toArray, List.set_cons_zero, List.set_cons_succ]
        refine wpAnyH_take (i := 12) (oi := _) (v := ?v12n55) rfl (by kernel_rfl) (by kernel_rfl) (by kernel_rfl) (fun _ _ _ h => h) (Or.inl ⟨by rfl, ?hy12n55⟩) (by assumption) ?rest12n55
        case hy12n55 =>
          intro w' hSw
          go_simp
          try with_reducible rfl
        try simp only [Act.put, List.getElem_toArray, List.getElem_cons_succ, List.getElem_cons_zero, List.setIfInBounds_toArray, List.set_cons_zero, List.set_cons_succ]
        refine wpAnyH_done (by kernel_rfl) ?_ _
        go_wp2_with fail
        go_ret
        exact ⟨rfl, HZv3.out.b⟩
      · by_cases e3 : part % 5 = 3
        · have q0 : (part % 5 == 0) = false := by simpa using e0
          have q1 : (part % 5 == 1) = false := by simpa using e1
          have q2 : (part % 5 == 2) = false := by simpa using e2
          have q3 : (part % 5 == 3) = true := by simpa using e3
          obtain ⟨j, hj⟩ : ∃ j : Nat, k % 32 = j := ⟨_, rfl⟩
          have hj16 : j < 32 := by omega
          have j1 : Int.tmod (k : Int) 32 = (j : Int) := by rw [Int.tmod_eq_emod_of_nonneg (by omega)]; omega
          have j2 : (0 : Int) ≤ (j : Int) := by omega
          have j3 : (j : Int) < 32 := by omega
          clear hj
          have cB : v.cell? ⟨w.heap.size + 1, j, none⟩ = some (.int .u8 (d.getD j 0)) := heap_cellO (L := d.map (Value.int .u8)) HA.out.bx.d (getD_at (by rw [HD.out.1]; exact hj16))
          generalize hb0 : d.getD j 0 = b0 at cB
          clear hb0
          have fB := frozen_of_row _ _ (j) _ _ HA.out.bx.d
          go_upto_region 14 with (fail)
          clear c0 c1 m4 m68 m5
          refine wp_region_held_drew (S := fun w' => w'.heap[w.heap.size + 1 + 1]? = some (.cells (cgA part idx by8) 27 (0, 0))) (by kernel_rfl) HA.out.bx.c (fun hHeld => ?_)
          refine wpAnyH_take (i := 0) (oi := _) (v := ?v0n56) rfl (by kernel_rfl) (by kernel_rfl) (by kernel_rfl) (fun _ _ _ h => h) (Or.inl ⟨by rfl, ?hy0n56⟩) (by assumption) ?rest0n56
          case hy0n56 =>
            intro w' hSw
            go_simp
            try with_reducible rfl
          try simp only [Act.put, List.getElem_toArray, List.getElem_cons_succ, List.getElem_cons_zero, List.setIfInBounds_toArray, List.set_cons_zero, List.set_cons_succ]
          refine wpAnyH_take (i := 1) (oi := _) (v := ?v1n57) rfl (by kernel_rfl) (by kernel_rfl) (by kernel_rfl) (fun _ _ _ h => h) (Or.inl ⟨by rfl, ?hy1n57⟩) (by assumption) ?rest1n57
          case hy1n57 =>
            intro w' hSw
            go_simp
            try with_reducible rfl
          try simp only [Act.put, List.getElem_toArray, List.getElem_cons_succ, List.getElem_cons_zero, List.setIfInBounds_toArray, List.set_cons_zero, List.set_cons_succ]
          refine wpAnyH_take (i := 2) (oi := _) (v := ?v2n58) rfl (by kernel_rfl) (by kernel_rfl) (by kernel_rfl) (fun _ _ _ h => h) (Or.inl ⟨by rfl, ?hy2n58⟩) (by assumption) ?rest2n58
          case hy2n58 =>
            intro w' hSw
            go_simp
            try with_reducible rfl
          try simp only [Act.put, List.getElem_toArray, List.getElem_cons_succ, List.getElem_cons_zero, List.setIfInBounds_toArray, List.set_cons_zero, List.set_cons_succ]
          refine wpAnyH_take (i := 4) (oi := _) (v := ?v4n59) rfl (by kernel_rfl) (by kernel_rfl) (by kernel_rfl) (fun _ _ _ h => h) (Or.inl ⟨by rfl, ?hy4n59⟩) (by assumption) ?rest4n59
          case hy4n59 =>
            intro w' hSw
            go_simp
            try with_reducible rfl
          try simp only [Act.put, List.getElem_toArray, List.getElem_cons_succ, List.getElem_cons_zero, List.setIfInBounds_toArray, List.set_cons_zero, List.set_cons_succ]
          refine wpAnyH_take (i := 5) (oi := _) (v := ?v5n60) rfl (by kernel_rfl) (by kernel_rfl) (by kernel_rfl) (fun _ _ _ h => h) (Or.inl ⟨by rfl, ?hy5n60⟩) (by assumption) ?rest5n60
          case hy5n60 =>
            intro w' hSw
            have c1 := cg_b hSw
            go_simp
            try with_reducible rfl
          try simp only [Act.put, List.getElem_toArray, List.getElem_cons_succ, List.getElem_cons_zero, List.setIfInBounds_toArray, List.set_cons_zero, List.set_cons_succ]
          refine wpAnyH_ready (rs := [3]) (by kernel_rfl) (by simp) (AllReadyH.cons (o := _) rfl (fun K hK => ?_) AllReadyH.nil)
          go_simp
          refine hK.out _ _ HA.out.bx.c (fun hHeld => ?_)
          clear hK K
          try simp only [Act.put, List.getElem_toArray, List.getElem_cons_succ, List.getElem_cons_zero, List.setIfInBounds_toArray, List.set_cons_zero, List.set_cons_succ]
          refine wpAnyH_take (i := 6) (oi := _) (v := ?v6n61) rfl (by kernel_rfl) (by kernel_rfl) (by kernel_rfl) (fun _ _ _ h => h) (Or.inl ⟨by rfl, ?hy6n61⟩) (by assumption) ?rest6n61
          case hy6n61 =>
            intro w' hSw
            go_simp
            try with_reducible rfl
          try simp only [Act.put, List.getElem_toArray, List.getElem_cons_succ, List.getElem_cons_zero, List.setIfInBounds_toArray, List.set_cons_zero, List.set_cons_succ]
          refine wpAnyH_take (i := 7) (oi := _) (v := ?v7n62) rfl (by kernel_rfl) (by kernel_rfl) (by kernel_rfl) (fun _ _ _ h => h) (Or.inl ⟨by rfl, ?hy7n62⟩) (by assumption) ?rest7n62
          case hy7n62 =>
            intro w' hSw
            go_simp
            try with_reducible rfl
          try simp only [Act.put, List.getElem_toArray, List.getElem_cons_succ, List.getElem_cons_zero, List.setIfInBounds_toArray, List.set_cons_zero, List.set_cons_succ]
          refine wpAnyH_ready (rs := [8]) (by kernel_rfl) (by simp) (AllReadyH.cons (o := _) rfl (fun K hK => ?_) AllReadyH.nil)
          go_simp
          skip
          have hz : ∃ d r l cl pl, Hid (SpZ w d r l gp gs spc spp capc capp cl pl (World.drew (World.setCell v ⟨w.heap.size + 1, j, none⟩ (.int .u8 (bits .xor .u8 b0 by8))))) := HA.out.dig HCL.out HPL.out HNK.out HD.out j _ (xor_byt _ _)
          refine hK.out _ _ ((heap_setCell_other _ _ _ _ (by show w.heap.size + 1 + 1 ≠ w.heap.size + 1; omega)).trans HA.out.bx.c) (fun hHeld => ?_)
          clear hK K hHeld
          try simp only [Act.put, List.getElem_toArray, List.getElem_cons_succ, List.getElem_cons_zero, List.setIfInBounds_toArray, List.set_cons_zero, List.set_cons_succ]
          refine wpAnyH_done (by kernel_rfl) ?_ _
          go_wp2_with fail
          try clear e0
          try clear e1
          try clear e2
          try clear e3
          generalize World.drew (World.setCell _ _ _) = v0 at *
          clear HA
          obtain ⟨d, r, l, cl, pl, HZ⟩ := hz
          have HZv0 : Hid (SpZ w d r l gp gs spc spp capc capp cl pl v0) := HZ.out
          have HCA := Lib.hid (fun w' (hb : Below w.heap.size w w') (hz : 1 < w'.heap.size) => awake_any w' (HK.out.below hb hk0) hz)
          have HCV := Lib.hid (fun w' (z : SpZ w d r l gp gs spc spp capc capp cl pl w') => (show Calls Tryd.prog 9 #[.agg (pkL 2 r).toArray, .agg (d.map (Value.int .u8)).toArray, .agg (siL l (.slice spc 68 capc) (.slice spp 2 capp)).toArray] w' fun e w'' => e = .returned (.bool (vfyB 2 r d l 68 2 cl pl)) ∧ Below w'.heap.size w' w'' from verify_any 2 r d l spc 68 capc spp 2 capp cl pl w' z.r16 z.d32 z.hc z.hp (HK.out.below z.b hk0) (by have := z.b.size; omega)))
          have HCW := Lib.hid (fun w' (z : SpZ w d r l gp gs spc spp capc capp cl pl w') => (show Calls Tryd.prog 10 #[.agg (pkL 2 r).toArray, .agg (d.map (Value.int .u8)).toArray, .agg (siL l (.slice spc 68 capc) (.slice spp 2 capp)).toArray] w' fun e w'' => e = .returned (.bool (vfyB 2 r d l 68 2 cl pl)) ∧ Below w'.heap.size w' w'' from rverify_any 2 r d l spc 68 capc spp 2 capp cl pl w' z.r16 z.d32 z.hc z.hp))
          go_upto_region 15 with (fail)
          refine wp_region_held_drew (S := fun w' => w'.heap[gp]? = some (.cells (pkA 2 r) 31 (0, 0)) ∧ w'.heap[w.heap.size + 1]? = some (.cells (dgA d) 25 (0, 0)) ∧ w'.heap[gs]? = some (.cells (siA l (.slice spc 68 capc) (.slice spp 2 capp)) 37 (0, 0))) (by kernel_rfl) ⟨HZv0.out.pp, HZv0.out.dd, HZv0.out.ss⟩ (fun hHeld => ?_)
          refine wpAnyH_ready (rs := [0]) (by kernel_rfl) (by simp) (AllReadyH.cons (o := _) rfl (fun K hK => ?_) AllReadyH.nil)
          go_simp
          with_reducible refine (HCA.out _ HZv0.out.b.drew (Nat.lt_of_lt_of_le hk0 HZv0.out.b.drew.size)).mono ?_
          rintro e v1 ⟨rfl, hb⟩
          have HZv1 : Hid (SpZ w d r l gp gs spc spp capc capp cl pl v1) := HZv0.out.below ((Below.refl _ _).drew.trans hb)
          clear hb
          go_wp2_with fail
          refine hK.out _ _ ⟨HZv1.out.pp, HZv1.out.dd, HZv1.out.ss⟩ (fun hHeld => ?_)
          clear hK K
          try simp only [Act.put, List.getElem_toArray, List.getElem_cons_succ, List.getElem_cons_zero, List.setIfInBounds_toArray, List.set_cons_zero, List.set_cons_succ]
          refine wpAnyH_take (i := 1) (oi := _) (v := ?v1n63) rfl (by kernel_rfl) (by kernel_rfl) (by kernel_rfl) (fun _ _ _ h => h) (Or.inl ⟨by rfl, ?hy1n63⟩) (by assumption) ?rest1n63
          case hy1n63 =>
            intro w' hSw
            go_simp
            try with_reducible rfl
          try simp only [Act.put, List.getElem_toArray, List.getElem_cons_succ, List.getElem_cons_zero, List.setIfInBounds_toArray, List.set_cons_zero, List.set_cons_succ]
          refine' wpAnyH_take (i := 2) (oi := _) (v := _) rfl (by kernel_rfl) (by kernel_rfl) (by kernel_rfl) (fun _ _ _ h => h) (yieldsIf_load_mid (by rfl) _ _ rfl _ _ rfl _ _ ?hS2n64 Tryd.underlying31 rfl (info_pkL HZ.out.r16)) (by assumption) ?rest2n64
          case hS2n64 =>
            intro w' hSw
            exact row_rngK (L := pkL 2 r) hSw.1
          try simp only [Act.put, List.getElem_toArray, List.getElem_cons_succ, List.getElem_cons_zero, List.setIfInBounds_toArray, List.set_cons_zero, List.set_cons_succ]
          refine' wpAnyH_take (i := 3) (oi := _) (v := _) rfl (by kernel_rfl) (by kernel_rfl) (by kernel_rfl) (fun _ _ _ h => h) (yieldsIf_load_mid (by rfl) _ _ rfl _ _ rfl _ _ ?hS3n65 Tryd.underlying25 rfl (info_d HZ.out.d32)) (by assumption) ?rest3n65
          case hS3n65 =>
            intro w' hSw
            exact row_rngK hSw.2.1
          try simp only [Act.put, List.getElem_toArray, List.getElem_cons_succ, List.getElem_cons_zero, List.setIfInBounds_toArray, List.set_cons_zero, List.set_cons_succ]
          refine' wpAnyH_take (i := 4) (oi := _) (v := _) rfl (by kernel_rfl) (by kernel_rfl) (by kernel_rfl) (fun _ _ _ h => h) (yieldsIf_load_mid (by rfl) _ _ rfl _ _ rfl _ _ ?hS4n66 Tryd.underlying37 rfl (info_siL l (.slice spc 68 capc) (.slice spp 2 capp))) (by assumption) ?rest4n66
          case hS4n66 =>
            intro w' hSw
            exact row_rngK (L := siL l (.slice spc 68 capc) (.slice spp 2 capp)) hSw.2.2
          try simp only [Act.put, List.getElem_toArray, List.getElem_cons_succ, List.getElem_cons_zero, List.setIfInBounds_toArray, List.set_cons_zero, List.set_cons_succ]
          refine' wpAnyH_take (i := 6) (oi := _) (v := _) rfl (by kernel_rfl) (by kernel_rfl) (by kernel_rfl) (fun _ _ _ h => h) (yieldsIf_load_mid (by rfl) _ _ rfl _ _ rfl _ _ ?hS6n67 Tryd.underlying31 rfl (info_pkL HZ.out.r16)) (by assumption) ?rest6n67
          case hS6n67 =>
            intro w' hSw
            exact row_rngK (L := pkL 2 r) hSw.1
          try simp only [Act.put, List.getElem_toArray, List.getElem_cons_succ, List.getElem_cons_zero, List.setIfInBounds_toArray, List.set_cons_zero, List.set_cons_succ]
          refine' wpAnyH_take (i := 7) (oi := _) (v := _) rfl (by kernel_rfl) (by kernel_rfl) (by kernel_rfl) (fun _ _ _ h => h) (yieldsIf_load_mid (by rfl) _ _ rfl _ _ rfl _ _ ?hS7n68 Tryd.underlying25 rfl (info_d HZ.out.d32)) (by assumption) ?rest7n68
          case hS7n68 =>
            intro w' hSw
            exact row_rngK hSw.2.1
          try simp only [Act.put, List.getElem_toArray, List.getElem_cons_succ, List.getElem_cons_zero, List.setIfInBounds_toArray, List.set_cons_zero, List.set_cons_succ]
          refine' wpAnyH_take (i := 8) (oi := _) (v := _) rfl (by kernel_rfl) (by kernel_rfl) (by kernel_rfl) (fun _ _ _ h => h) (yieldsIf_load_mid (by rfl) _ _ rfl _ _ rfl _ _ ?hS8n69 Tryd.underlying37 rfl (info_siL l (.slice spc 68 capc) (.slice spp 2 capp))) (by assumption) ?rest8n69
          case hS8n69 =>
            intro w' hSw
            exact row_rngK (L := siL l (.slice spc 68 capc) (.slice spp 2 capp)) hSw.2.2
          try simp only [Act.put, List.getElem_toArray, List.getElem_cons_succ, List.getElem_cons_zero, List.setIfInBounds_toArray, List.set_cons_zero, List.set_cons_succ]
          refine wpAnyH_ready (rs := [5]) (by kernel_rfl) (by simp) (AllReadyH.cons (o := _) rfl (fun K hK => ?_) AllReadyH.nil)
          go_simp
          with_reducible refine (HCV.out _ HZv1.out).mono ?_
          rintro e v2 ⟨rfl, hb⟩
          have HZv2 : Hid (SpZ w d r l gp gs spc spp capc capp cl pl v2) := HZv1.out.below hb
          clear hb
          go_wp2_with fail
          refine hK.out _ _ ⟨HZv2.out.pp, HZv2.out.dd, HZv2.out.ss⟩ (fun hHeld => ?_)
          clear hK K
          try simp only [Act.put, List.getElem_toArray, List.getElem_cons_succ, List.getElem_cons_zero, List.setIfInBounds_toArray, List.set_cons_zero, List.set_cons_succ]
          refine wpAnyH_ready (rs := [9]) (by kernel_rfl) (by simp) (AllReadyH.cons (o := _) rfl (fun K hK => ?_) AllReadyH.nil)
          go_simp
          with_reducible refine (HCW.out _ HZv2.out).mono ?_
          rintro e v3 ⟨rfl, hb⟩
          have HZv3 : Hid (SpZ w d r l gp gs spc spp capc capp cl pl v3) := HZv2.out.below hb
          clear hb
          go_wp2_with fail
          refine hK.out _ _ ⟨HZv3.out.pp, HZv3.out.dd, HZv3.out.ss⟩ (fun hHeld => ?_)
          clear hK K
          try simp only [Act.put, List.getElem_toArray, List.getElem_cons_succ, List.getElem_cons_zero, List.setIfInBounds_toArray, List.set_cons_zero, List.set_cons_succ]
          refine wpAnyH_take (i := 10) (oi := _) (v := ?v10n70) rfl (by kernel_rfl) (by kernel_rfl) (by kernel_rfl) (fun _ _ _ h => h) (Or.inl ⟨by rfl, ?hy10n70⟩) (by assumption) ?rest10n70
          case hy10n70 =>
            intro w' hSw
            go_simp
            try with_reducible rfl
          try simp only [Act.put, List.getElem_toArray, List.getElem_cons_succ, List.getElem_cons_zero, List.setIfInBounds_toArray, List.set_cons_zero, List.set_cons_succ]
          refine wpAnyH_take (i := 11) (oi := _) (v := ?v11n71) rfl (by kernel_rfl) (by kernel_rfl) (by kernel_rfl) (fun _ _ _ h => h) (Or.inl ⟨by rfl, ?hy11n71⟩) (by assumption) ?rest11n71
          case hy11n71 =>
            intro w' hSw
            go_simp
            try with_reducible rfl
          try simp only [Act.put, List.getElem_toArray, List.getElem_cons_succ, List.getElem_cons_zero, List.setIfInBounds_toArray, List.set_cons_zero, List.set_cons_succ]
          refine wpAnyH_take (i := 12) (oi := _) (v := ?v12n72) rfl (by kernel_rfl) (by kernel_rfl) (by kernel_rfl) (fun _ _ _ h => h) (Or.inl ⟨by rfl, ?hy12n72⟩) (by assumption) ?rest12n72
          case hy12n72 =>
            intro w' hSw
            go_simp
            try with_reducible rfl
          try simp only [Act.put, List.getElem_toArray, List.getElem_cons_succ, List.getElem_cons_zero, List.setIfInBounds_toArray, List.set_cons_zero, List.set_cons_succ]
          refine wpAnyH_done (by kernel_rfl) ?_ _
          go_wp2_with fail
          go_ret
          exact ⟨rfl, HZv3.out.b⟩
        · have q0 : (part % 5 == 0) = false := by simpa using e0
          have q1 : (part % 5 == 1) = false := by simpa using e1
          have q2 : (part % 5 == 2) = false := by simpa using e2
          have q3 : (part % 5 == 3) = false := by simpa using e3
          obtain ⟨j, hj⟩ : ∃ j : Nat, k % 16 = j := ⟨_, rfl⟩
          have hj16 : j < 16 := by omega
          have j1 : Int.tmod (k : Int) 16 = (j : Int) := by rw [Int.tmod_eq_emod_of_nonneg (by omega)]; omega
          have j2 : (0 : Int) ≤ (j : Int) := by omega
          have j3 : (j : Int) < 16 := by omega
          clear hj
          have cB : v.cell? ⟨gp, 1 + j, none⟩ = some (.int .u8 (r.getD j 0)) := heap_cellO (L := pkL 2 r) HA.out.p (by rw [Nat.add_comm]; exact getD_at (l := r) (by rw [HNK.out.1]; exact hj16))
          generalize hb0 : r.getD j 0 = b0 at cB
          clear hb0
          have fB := frozen_of_row _ _ (1 + j) _ _ HA.out.p
          go_upto_region 6 with (fail)
          clear c0 c1 m4 m68 m5
          refine wp_region_held_drew (S := fun w' => w'.heap[w.heap.size + 1 + 1]? = some (.cells (cgA part idx by8) 27 (0, 0))) (by kernel_rfl) HA.out.bx.c (fun hHeld => ?_)
          refine wpAnyH_take (i := 0) (oi := _) (v := ?v0n73) rfl (by kernel_rfl) (by kernel_rfl) (by kernel_rfl) (fun _ _ _ h => h) (Or.inl ⟨by rfl, ?hy0n73⟩) (by assumption) ?rest0n73
          case hy0n73 =>
            intro w' hSw
            go_simp
            try with_reducible rfl
          try simp only [Act.put, List.getElem_toArray, List.getElem_cons_succ, List.getElem_cons_zero, List.setIfInBounds_toArray, List.set_cons_zero, List.set_cons_succ]
          refine wpAnyH_take (i := 1) (oi := _) (v := ?v1n74) rfl (by kernel_rfl) (by kernel_rfl) (by kernel_rfl) (fun _ _ _ h => h) (Or.inl ⟨by rfl, ?hy1n74⟩) (by assumption) ?rest1n74
          case hy1n74 =>
            intro w' hSw
            go_simp
            try with_reducible rfl
          try simp only [Act.put, List.getElem_toArray, List.getElem_cons_succ, List.getElem_cons_zero, List.setIfInBounds_toArray, List.set_cons_zero, List.set_cons_succ]
          refine wpAnyH_take (i := 2) (oi := _) (v := ?v2n75) rfl (by kernel_rfl) (by kernel_rfl) (by kernel_rfl) (fun _ _ _ h => h) (Or.inl ⟨by rfl, ?hy2n75⟩) (by assumption) ?rest2n75
          case hy2n75 =>
            intro w' hSw
            go_simp
            try with_reducible rfl
          try simp only [Act.put, List.getElem_toArray, List.getElem_cons_succ, List.getElem_cons_zero, List.setIfInBounds_toArray, List.set_cons_zero, List.set_cons_succ]
          refine wpAnyH_take (i := 3) (oi := _) (v := ?v3n76) rfl (by kernel_rfl) (by kernel_rfl) (by kernel_rfl) (fun _ _ _ h => h) (Or.inl ⟨by rfl, ?hy3n76⟩) (by assumption) ?rest3n76
          case hy3n76 =>
            intro w' hSw
            go_simp
            try with_reducible rfl
          try simp only [Act.put, List.getElem_toArray, List.getElem_cons_succ, List.getElem_cons_zero, List.setIfInBounds_toArray, List.set_cons_zero, List.set_cons_succ]
          refine wpAnyH_take (i := 5) (oi := _) (v := ?v5n77) rfl (by kernel_rfl) (by kernel_rfl) (by kernel_rfl) (fun _ _ _ h => h) (Or.inl ⟨by rfl, ?hy5n77⟩) (by assumption) ?rest5n77
          case hy5n77 =>
            intro w' hSw
            go_simp
            try with_reducible rfl
          try simp only [Act.put, List.getElem_toArray, List.getElem_cons_succ, List.getElem_cons_zero, List.setIfInBounds_toArray, List.set_cons_zero, List.set_cons_succ]
          refine wpAnyH_take (i := 6) (oi := _) (v := ?v6n78) rfl (by kernel_rfl) (by kernel_rfl) (by kernel_rfl) (fun _ _ _ h => h) (Or.inl ⟨by rfl, ?hy6n78⟩) (by assumption) ?rest6n78
          case hy6n78 =>
            intro w' hSw
            have c1 := cg_b hSw
            go_simp
            try with_reducible rfl
          try simp only [Act.put, List.getElem_toArray, List.getElem_cons_succ, List.getElem_cons_zero, List.setIfInBounds_toArray, List.set_cons_zero, List.set_cons_succ]
          refine wpAnyH_take (i := 8) (oi := _) (v := ?v8n79) rfl (by kernel_rfl) (by kernel_rfl) (by kernel_rfl) (fun _ _ _ h => h) (Or.inl ⟨by rfl, ?hy8n79⟩) (by assumption) ?rest8n79
          case hy8n79 =>
            intro w' hSw
            go_simp
            try with_reducible rfl
          try simp only [Act.put, List.getElem_toArray, List.getElem_cons_succ, List.getElem_cons_zero, List.setIfInBounds_toArray, List.set_cons_zero, List.set_cons_succ]
          refine wpAnyH_ready (rs := [4]) (by kernel_rfl) (by simp) (AllReadyH.cons (o := _) rfl (fun K hK => ?_) AllReadyH.nil)
          go_simp
          refine hK.out _ _ HA.out.bx.c (fun hHeld => ?_)
          clear hK K
          try simp only [Act.put, List.getElem_toArray, List.getElem_cons_succ, List.getElem_cons_zero, List.setIfInBounds_toArray, List.set_cons_zero, List.set_cons_succ]
          refine wpAnyH_take (i := 7) (oi := _) (v := ?v7n80) rfl (by kernel_rfl) (by kernel_rfl) (by kernel_rfl) (fun _ _ _ h => h) (Or.inl ⟨by rfl, ?hy7n80⟩) (by assumption) ?rest7n80
          case hy7n80 =>
            intro w' hSw
            go_simp
            try with_reducible rfl
          try simp only [Act.put, List.getElem_toArray, List.getElem_cons_succ, List.getElem_cons_zero, List.setIfInBounds_toArray, List.set_cons_zero, List.set_cons_succ]
          refine wpAnyH_take (i := 9) (oi := _) (v := ?v9n81) rfl (by kernel_rfl) (by kernel_rfl) (by kernel_rfl) (fun _ _ _ h => h) (Or.inl ⟨by rfl, ?hy9n81⟩) (by assumption) ?rest9n81
          case hy9n81 =>
            intro w' hSw
            go_simp
            try with_reducible rfl
          try simp only [Act.put, List.getElem_toArray, List.getElem_cons_succ, List.getElem_cons_zero, List.setIfInBounds_toArray, List.set_cons_zero, List.set_cons_succ]
          refine wpAnyH_ready (rs := [10]) (by kernel_rfl) (by simp) (AllReadyH.cons (o := _) rfl (fun K hK => ?_) AllReadyH.nil)
          go_simp
          skip
          have hz : ∃ d r l cl pl, Hid (SpZ w d r l gp gs spc spp capc capp cl pl (World.drew (World.setCell v ⟨gp, 1 + j, none⟩ (.int .u8 (bits .xor .u8 b0 by8))))) := HA.out.root HCL.out HPL.out HNK.out HD.out j _ (xor_byt _ _)
          refine hK.out _ _ ((heap_setCell_other _ _ _ _ (by show w.heap.size + 1 + 1 ≠ gp; omega)).trans HA.out.bx.c) (fun hHeld => ?_)
          clear hK K hHeld
          try simp only [Act.put, List.getElem_toArray, List.getElem_cons_succ, List.getElem_cons_zero, List.setIfInBounds_toArray, List.set_cons_zero, List.set_cons_succ]
          refine wpAnyH_done (by kernel_rfl) ?_ _
          go_wp2_with fail
          try clear e0
          try clear e1
          try clear e2
          try clear e3
          generalize World.drew (World.setCell _ _ _) = v0 at *
          clear HA
          obtain ⟨d, r, l, cl, pl, HZ⟩ := hz
          have HZv0 : Hid (SpZ w d r l gp gs spc spp capc capp cl pl v0) := HZ.out
          have HCA := Lib.hid (fun w' (hb : Below w.heap.size w w') (hz : 1 < w'.heap.size) => awake_any w' (HK.out.below hb hk0) hz)
          have HCV := Lib.hid (fun w' (z : SpZ w d r l gp gs spc spp capc capp cl pl w') => (show Calls Tryd.prog 9 #[.agg (pkL 2 r).toArray, .agg (d.map (Value.int .u8)).toArray, .agg (siL l (.slice spc 68 capc) (.slice spp 2 capp)).toArray] w' fun e w'' => e = .returned (.bool (vfyB 2 r d l 68 2 cl pl)) ∧ Below w'.heap.size w' w'' from verify_any 2 r d l spc 68 capc spp 2 capp cl pl w' z.r16 z.d32 z.hc z.hp (HK.out.below z.b hk0) (by have := z.b.size; omega)))
          have HCW := Lib.hid (fun w' (z : SpZ w d r l gp gs spc spp capc capp cl pl w') => (show Calls Tryd.prog 10 #[.agg (pkL 2 r).toArray, .agg (d.map (Value.int .u8)).toArray, .agg (siL l (.slice spc 68 capc) (.slice spp 2 capp)).toArray] w' fun e w'' => e = .returned (.bool (vfyB 2 r d l 68 2 cl pl)) ∧ Below w'.heap.size w' w'' from rverify_any 2 r d l spc 68 capc spp 2 capp cl pl w' z.r16 z.d32 z.hc z.hp))
          go_upto_region 15 with (fail)
          refine wp_region_held_drew (S := fun w' => w'.heap[gp]? = some (.cells (pkA 2 r) 31 (0, 0)) ∧ w'.heap[w.heap.size + 1]? = some (.cells (dgA d) 25 (0, 0)) ∧ w'.heap[gs]? = some (.cells (siA l (.slice spc 68 capc) (.slice spp 2 capp)) 37 (0, 0))) (by kernel_rfl) ⟨HZv0.out.pp, HZv0.out.dd, HZv0.out.ss⟩ (fun hHeld => ?_)
          refine wpAnyH_ready (rs := [0]) (by kernel_rfl) (by simp) (AllReadyH.cons (o := _) rfl (fun K hK => ?_) AllReadyH.nil)
          go_simp
          with_reducible refine (HCA.out _ HZv0.out.b.drew (Nat.lt_of_lt_of_le hk0 HZv0.out.b.drew.size)).mono ?_
          rintro e v1 ⟨rfl, hb⟩
          have HZv1 : Hid (SpZ w d r l gp gs spc spp capc capp cl pl v1) := HZv0.out.below ((Below.refl _ _).drew.trans hb)
          clear hb
          go_wp2_with fail
          refine hK.out _ _ ⟨HZv1.out.pp, HZv1.out.dd, HZv1.out.ss⟩ (fun hHeld => ?_)
          clear hK K
          try simp only [Act.put, List.getElem_toArray, List.getElem_cons_succ, List.getElem_cons_zero, List.setIfInBounds_toArray, List.set_cons_zero, List.set_cons_succ]
          refine wpAnyH_take (i := 1) (oi := _) (v := ?v1n82) rfl (by kernel_rfl) (by kernel_rfl) (by kernel_rfl) (fun _ _ _ h => h) (Or.inl ⟨by rfl, ?hy1n82⟩) (by assumption) ?rest1n82
          case hy1n82 =>
            intro w' hSw
            go_simp
            try with_reducible rfl
          try simp only [Act.put, List.getElem_toArray, List.getElem_cons_succ, List.getElem_cons_zero, List.setIfInBounds_toArray, List.set_cons_zero, List.set_cons_succ]
          refine' wpAnyH_take (i := 2) (oi := _) (v := _) rfl (by kernel_rfl) (by kernel_rfl) (by kernel_rfl) (fun _ _ _ h => h) (yieldsIf_load_mid (by rfl) _ _ rfl _ _ rfl _ _ ?hS2n83 Tryd.underlying31 rfl (info_pkL HZ.out.r16)) (by assumption) ?rest2n83
          case hS2n83 =>
            intro w' hSw
            exact row_rngK (L := pkL 2 r) hSw.1
          try simp only [Act.put, List.getElem_toArray, List.getElem_cons_succ, List.getElem_cons_zero, List.setIfInBounds_toArray, List.set_cons_zero, List.set_cons_succ]
          refine' wpAnyH_take (i := 3) (oi := _) (v := _) rfl (by kernel_rfl) (by kernel_rfl) (by kernel_rfl) (fun _ _ _ h => h) (yieldsIf_load_mid (by rfl) _ _ rfl _ _ rfl _ _ ?hS3n84 Tryd.underlying25 rfl (info_d HZ.out.d32)) (by assumption) ?rest3n84
          case hS3n84 =>
            intro w' hSw
            exact row_rngK hSw.2.1
          try simp only [Act.put, List.getElem_toArray, List.getElem_cons_succ, List.getElem_cons_zero, List.setIfInBounds_toArray, List.set_cons_zero, List.set_cons_succ]
          refine' wpAnyH_take (i := 4) (oi := _) (v := _) rfl (by kernel_rfl) (by kernel_rfl) (by kernel_rfl) (fun _ _ _ h => h) (yieldsIf_load_mid (by rfl) _ _ rfl _ _ rfl _ _ ?hS4n85 Tryd.underlying37 rfl (info_siL l (.slice spc 68 capc) (.slice spp 2 capp))) (by assumption) ?rest4n85
          case hS4n85 =>
            intro w' hSw
            exact row_rngK (L := siL l (.slice spc 68 capc) (.slice spp 2 capp)) hSw.2.2
          try simp only [Act.put, List.getElem_toArray, List.getElem_cons_succ, List.getElem_cons_zero, List.setIfInBounds_toArray, List.set_cons_zero, List.set_cons_succ]
          refine' wpAnyH_take (i := 6) (oi := _) (v := _) rfl (by kernel_rfl) (by kernel_rfl) (by kernel_rfl) (fun _ _ _ h => h) (yieldsIf_load_mid (by rfl) _ _ rfl _ _ rfl _ _ ?hS6n86 Tryd.underlying31 rfl (info_pkL HZ.out.r16)) (by assumption) ?rest6n86
          case hS6n86 =>
            intro w' hSw
            exact row_rngK (L := pkL 2 r) hSw.1
          try simp only [Act.put, List.getElem_toArray, List.getElem_cons_succ, List.getElem_cons_zero, List.setIfInBounds_toArray, List.set_cons_zero, List.set_cons_succ]
          refine' wpAnyH_take (i := 7) (oi := _) (v := _) rfl (by kernel_rfl) (by kernel_rfl) (by kernel_rfl) (fun _ _ _ h => h) (yieldsIf_load_mid (by rfl) _ _ rfl _ _ rfl _ _ ?hS7n87 Tryd.underlying25 rfl (info_d HZ.out.d32)) (by assumption) ?rest7n87
          case hS7n87 =>
            intro w' hSw
            exact row_rngK hSw.2.1
          try simp only [Act.put, List.getElem_toArray, List.getElem_cons_succ, List.getElem_cons_zero, List.setIfInBounds_toArray, List.set_cons_zero, List.set_cons_succ]
          refine' wpAnyH_take (i := 8) (oi := _) (v := _) rfl (by kernel_rfl) (by kernel_rfl) (by kernel_rfl) (fun _ _ _ h => h) (yieldsIf_load_mid (by rfl) _ _ rfl _ _ rfl _ _ ?hS8n88 Tryd.underlying37 rfl (info_siL l (.slice spc 68 capc) (.slice spp 2 capp))) (by assumption) ?rest8n88
          case hS8n88 =>
            intro w' hSw
            exact row_rngK (L := siL l (.slice spc 68 capc) (.slice spp 2 capp)) hSw.2.2
          try simp only [Act.put, List.getElem_toArray, List.getElem_cons_succ, List.getElem_cons_zero, List.setIfInBounds_toArray, List.set_cons_zero, List.set_cons_succ]
          refine wpAnyH_ready (rs := [5]) (by kernel_rfl) (by simp) (AllReadyH.cons (o := _) rfl (fun K hK => ?_) AllReadyH.nil)
          go_simp
          with_reducible refine (HCV.out _ HZv1.out).mono ?_
          rintro e v2 ⟨rfl, hb⟩
          have HZv2 : Hid (SpZ w d r l gp gs spc spp capc capp cl pl v2) := HZv1.out.below hb
          clear hb
          go_wp2_with fail
          refine hK.out _ _ ⟨HZv2.out.pp, HZv2.out.dd, HZv2.out.ss⟩ (fun hHeld => ?_)
          clear hK K
          try simp only [Act.put, List.getElem_toArray, List.getElem_cons_succ, List.getElem_cons_zero, List.setIfInBounds_toArray, List.set_cons_zero, List.set_cons_succ]
          refine wpAnyH_ready (rs := [9]) (by kernel_rfl) (by simp) (AllReadyH.cons (o := _) rfl (fun K hK => ?_) AllReadyH.nil)
          go_simp
          with_reducible refine (HCW.out _ HZv2.out).mono ?_
          rintro e v3 ⟨rfl, hb⟩
          have HZv3 : Hid (SpZ w d r l gp gs spc spp capc capp cl pl v3) := HZv2.out.below hb
          clear hb
          go_wp2_with fail
          refine hK.out _ _ ⟨HZv3.out.pp, HZv3.out.dd, HZv3.out.ss⟩ (fun hHeld => ?_)
          clear hK K
          try simp only [Act.put, List.getElem_toArray, List.getElem_cons_succ, List.getElem_cons_zero, List.setIfInBounds_toArray, List.set_cons_zero, List.set_cons_succ]
          refine wpAnyH_take (i := 10) (oi := _) (v := ?v10n89) rfl (by kernel_rfl) (by kernel_rfl) (by kernel_rfl) (fun _ _ _ h => h) (Or.inl ⟨by rfl, ?hy10n89⟩) (by assumption) ?rest10n89
          case hy10n89 =>
            intro w' hSw
            go_simp
            try with_reducible rfl
          try simp only [Act.put, List.getElem_toArray, List.getElem_cons_succ, List.getElem_cons_zero, List.setIfInBounds_toArray, List.set_cons_zero, List.set_cons_succ]
          refine wpAnyH_take (i := 11) (oi := _) (v := ?v11n90) rfl (by kernel_rfl) (by kernel_rfl) (by kernel_rfl) (fun _ _ _ h => h) (Or.inl ⟨by rfl, ?hy11n90⟩) (by assumption) ?rest11n90
          case hy11n90 =>
            intro w' hSw
            go_simp
            try with_reducible rfl
          try simp only [Act.put, List.getElem_toArray, List.getElem_cons_succ, List.getElem_cons_zero, List.setIfInBounds_toArray, List.set_cons_zero, List.set_cons_succ]
          refine wpAnyH_take (i := 12) (oi := _) (v := ?v12n91) rfl (by kernel_rfl) (by kernel_rfl) (by kernel_rfl) (fun _ _ _ h => h) (Or.inl ⟨by rfl, ?hy12n91⟩) (by assumption) ?rest12n91
          case hy12n91 =>
            intro w' hSw
            go_simp
            try with_reducible rfl
          try simp only [Act.put, List.getElem_toArray, List.getElem_cons_succ, List.getElem_cons_zero, List.setIfInBounds_toArray, List.set_cons_zero, List.set_cons_succ]
          refine wpAnyH_done (by kernel_rfl) ?_ _
          go_wp2_with fail
          go_ret
          exact ⟨rfl, HZv3.out.b⟩
end Go.Proofs.YtbfgkbcpkldofaaDoor
