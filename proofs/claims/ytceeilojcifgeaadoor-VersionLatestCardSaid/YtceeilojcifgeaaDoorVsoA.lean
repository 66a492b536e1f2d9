/-
  Versions with their keys: as cells, in rows; the walks of byKey and of what an order of keys is.
-/
import Derived.Test.YtceeilojcifgeaaDoorOwnG
import Derived.Test.YtceeilojcifgeaaDoorStkE
import Derived.Test.YtceeilojcifgeaaDoorVerR
namespace Go.Proofs.YtceeilojcifgeaaDoor
open Go.RowKit Go.Sort

abbrev KV := ByteArray × ByteArray
def kvL (x : KV) : List Value := [.string x.1, .string x.2]
theorem kvL_length (x : KV) : (kvL x).length = 2 := rfl
theorem kvL_one (x : KV) : ∀ u ∈ kvL x, u.oneCell' = true := fun u hu => by
  rcases List.mem_cons.1 hu with rfl | hu
  · rfl
  · rw [List.mem_singleton.1 hu]; rfl
def encV (p : KV × Nat) : List Value := kvL p.1
def cKV (x y : KV) : Int := lx x.2.data.toList y.2.data.toList
theorem lx_lt_trans {a b c : BL} (h1 : lx a b < 0) (h2 : lx b c < 0) : lx a c < 0 := by
  have h3 := lx_trans a b c (by omega) (by omega)
  rcases lx_rng a c with h | h | h
  · omega
  · have e := lx_zero _ _ h; subst e
    rw [lx_swap a b] at h2; omega
  · omega
theorem lx_geq0 {a b c : BL} (h1 : 0 ≤ lx a b) (h2 : 0 ≤ lx b c) : 0 ≤ lx a c := by
  have := lx_trans c b a (by rw [lx_swap b c]; omega) (by rw [lx_swap a b]; omega)
  rw [lx_swap a c] at this; omega
theorem cKV_swo : SWO (ltOf cKV) where
  irrefl x := by unfold ltOf cKV; rw [lx_refl]; rfl
  trans x y z h1 h2 := by unfold ltOf cKV at *; simp only [decide_eq_true_eq] at *; exact lx_lt_trans h1 h2
  ntrans x y z h1 h2 := by unfold ltOf cKV at *; simp only [decide_eq_false_iff_not, Int.not_lt] at *; exact lx_geq0 h1 h2
theorem infoK3 : (Tryd.prog.info? 58).map (fun i => (i.zero, i.size, i.bytes)) = some (some (.agg #[.string ⟨#[]⟩, .string ⟨#[]⟩]), 2, 32) := by kernel_rfl
def OwnK (w : World) (base : Nat) (v : Value) (l : List KV) : Prop := w.ownsRow base 58 2 v l.length (l.flatMap kvL)
theorem OwnK.below {w w' : World} {base : Nat} {v : Value} {l : List KV} (h : OwnK w base v l) (hb : Below w.heap.size w w') : OwnK w' base v l := own_belowG h hb
/-- append(own, x) -/
theorem wpList_append_kv {w : World} {ops : Array Oper} {rest : List Oper} {o : Oper} {a : Act} {Q : Exit → Act → World → Prop} (hgd : o.guard = none) (s x : Operand)
    (ho : o.op = .call { callee := .builtin .append, args := #[s, x], argTypes := #[54, 54] }) (base : Nat) (v : Value) (l : List KV) (n : Nat) (hn : n = l.length) (hs : a.eval s = v) (hown : OwnK w base v l)
    (g : Nat) (y : KV) (hx : a.eval x = .slice (some ⟨g, 0, none⟩) 1 1) (hy : w.heap[g]? = some (.cells (kvL y).toArray 58 (0, 0))) (hlen : n ≤ 1000000) (hbase : base ≤ w.heap.size)
    (h : ∀ sp cap w', Hid (OwnK w' base (.slice sp (n + 1) cap) (l ++ [y])) → Hid (Below base w w') → Hid (w.grownBy w' v.ownBlock) → wpList Tryd.prog ops Q rest (a.put o.dst (.slice sp (n + 1) cap)) w') : wpList Tryd.prog ops Q (o :: rest) a w := by
  subst hn
  obtain ⟨i0, hi0, hz0, hz1, hz2⟩ := info_parts infoK3
  refine wpList_append_own w hgd s x _ ho base _ i0 _ 2 32 Tryd.underlying54 hi0 hz0 hz1 hz2 rfl (by decide) v l.length _ hs hown ⟨g, 0, none⟩ 1 1 (kvL y) hx rfl ?_ (kvL_one y) (by unfold maxLen; omega) (by omega) hbase ?_
  · intro j u hj
    rw [Addr.add_mid, cell_of_row w g (0 + j) _ _ _ hy, Nat.zero_add]
    simpa using hj
  · intro v' w' h1 h2 _
    obtain ⟨sp, cap, rfl⟩ := own_shapeG h1
    exact h sp cap w' (show OwnK _ _ _ _ by unfold OwnK; rw [List.length_append, List.flatMap_append]; simpa using h1) ((Below.refl base w).grown h2 hbase (own_baseG hown)) h2
set_option maxRecDepth 100000 in
set_option maxHeartbeats 400000 in
theorem byKey_any (x y : KV) (W : World) : Calls Tryd.prog 27 #[.agg #[.string x.1, .string x.2], .agg #[.string y.1, .string y.2]] W fun e w' => e = .returned (.int .i64 (cKV x y)) ∧ ∃ q os', w' = Sort.grow (W.drewN q) os' := by
  obtain ⟨a, k⟩ := x; obtain ⟨b, m⟩ := y
  have HE : Hid (cKV (a, k) (b, m) = lx k.data.toList m.data.toList) := rfl
  have HC := Lib.hid (fun w => strCompare_any k.data.toList m.data.toList w)
  rw [bs_of, bs_of] at HC
  rw [HE.out]
  generalize lx k.data.toList m.data.toList = r at *
  have h1 : ((W.alloc (.cells #[.string a, .string k] 58)).alloc (.cells #[.string b, .string m] 58)).cell? ⟨W.heap.size, 1, none⟩ = some (.string k) :=
    (World.cell?_of_block (a := ⟨W.heap.size, 1, none⟩) (Below.heap_alloc _ _ _ (by simp))).trans (by rw [cell_of_row _ W.heap.size 1 _ _ _ (heap_alloc_new W _)]; rfl)
  have h2 : ((W.alloc (.cells #[.string a, .string k] 58)).alloc (.cells #[.string b, .string m] 58)).cell? ⟨W.heap.size + 1, 1, none⟩ = some (.string m) := by
    have h3 := heap_alloc_new (W.alloc (.cells #[.string a, .string k] 58)) (.cells #[.string b, .string m] 58)
    rw [World.size_alloc] at h3
    rw [cell_of_row _ (W.heap.size + 1) 1 _ _ _ h3]; rfl
  clear HE
  go_enter Tryd.func27, Tryd.ntmps27
  go_wp2_with fail
  refine (HC.out _).mono ?_
  rintro e w' ⟨rfl, rfl⟩
  go_wp2_with fail
  go_ret
  exact ⟨rfl, 0, _, by rw [Sort.alloc_eq_grow, Sort.alloc_eq_grow, Sort.grow_grow]; rfl⟩
theorem byKey_enters : ∀ args w, (callFunc 27 args).run Tryd.prog w = .ok (.enter 27 args) w := enters_of Tryd.func27 (by kernel_rfl) rfl
/-- the elements with their places -/
def tagV (l : List KV) : Array (KV × Nat) := l.zipIdx.toArray
theorem tagV_size (l : List KV) : (tagV l).size = l.length := by simp [tagV]
theorem tagV_get (l : List KV) (i : Nat) (hi : i < l.length) : (tagV l)[i]! = (l[i], i) := by
  rw [getElem!_pos _ i (by rw [tagV_size]; exact hi)]; simp [tagV]
/-- rows that are read -/
structure KvIn (w : World) (g : Nat) (l : List KV) : Prop where
  lt : g < w.heap.size
  a : ∀ i x, l[i]? = some x → w.cell? ⟨g, i * 2, none⟩ = some (.string x.1)
  b : ∀ i x, l[i]? = some x → w.cell? ⟨g, i * 2 + 1, none⟩ = some (.string x.2)
theorem KvIn.below {w w' : World} {g : Nat} {l : List KV} {B : Nat} (h : KvIn w g l) (hb : Below B w w') (hB : g < B) : KvIn w' g l :=
  ⟨Nat.lt_of_lt_of_le h.lt hb.size, fun i x hi => (hb.cell (p := ⟨g, i * 2, none⟩) hB).trans (h.a i x hi), fun i x hi => (hb.cell (p := ⟨g, i * 2 + 1, none⟩) hB).trans (h.b i x hi)⟩
theorem OwnK.kv {w : World} {base g n cap : Nat} {l : List KV} (h : OwnK w base (.slice (some ⟨g, 0, none⟩) n cap) l) (hn : l.length = n) : KvIn w g l ∧ base ≤ g ∧ ∃ cur, w.heap[g]? = some (.cells cur 58 (0, 0)) ∧ n ≤ cap := by
  have h1 := h
  obtain ⟨_, ⟨e, _⟩ | ⟨g', cap', cur, e, hb, hg, hle, _⟩⟩ := h
  · cases e
  · injection e with e1 e2 e3
    injection e1 with e1; injection e1 with e1
    subst e1; subst e3
    obtain ⟨hlt, hc, hr⟩ := own_rangeG (f := kvL) h1 (fun x _ => kvL_length x) hn
    refine ⟨⟨hlt, fun i x hi => ?_, fun i x hi => ?_⟩, hb, cur, hg, hc⟩
    · have := hr i x hi 0 _ rfl; simpa using this
    · have := hr i x hi 1 _ rfl; simpa using this
theorem holdsV {w : World} {g : Nat} {l : List KV} {cur : Array Value} (h : KvIn w g l) (hg : w.heap[g]? = some (.cells cur 58 (0, 0))) : HoldsK encV 2 w g 0 (tagV l) := by
  intro t ht
  rw [Sort.size_flatK, tagV_size] at ht
  refine ⟨?_, by simp [World.frozen?, hg]⟩
  rw [Sort.get_flatK _ _ _ _ (by rw [tagV_size]; exact ht)]
  have hi : t / 2 < l.length := by omega
  rw [tagV_get l _ hi]
  have hx : l[t / 2]? = some l[t / 2] := List.getElem?_eq_getElem hi
  rcases (by omega : t % 2 = 0 ∨ t % 2 = 1) with e | e
  · have h1 := h.a _ _ hx
    have h2 : t / 2 * 2 = t := by omega
    rw [h2] at h1
    rw [e, Nat.zero_add]
    exact h1
  · have h1 := h.b _ _ hx
    rw [e, Nat.zero_add]
    have h2 : t / 2 * 2 + 1 = t := by omega
    rw [h2] at h1
    exact h1
theorem rowV {w : World} {g : Nat} {l : List KV} {cur : Array Value} (h : KvIn w g l) (hg : w.heap[g]? = some (.cells cur 58 (0, 0))) : RowK encV 2 w g 0 (tagV l) :=
  ⟨fun _ => rfl, fun x => kvL_one x.1, holdsV h hg, h.lt⟩
theorem below_swk {base g : Nat} {w w' : World} {d : Array (KV × Nat)} (hS : SWK encV 2 w g 0 d w') (hg : base ≤ g) (hgw : g < w.heap.size) : Below base w w' := by
  obtain ⟨m, os, rfl⟩ := hS
  unfold sortWorldK Sort.putRowK
  refine ⟨rfl, rfl, rfl, by simp, fun k hk => ?_⟩
  by_cases hkw : k < w.heap.size
  · rw [Sort.heap_grow_old _ _ (by simpa using hkw)]
    have : g ≠ k := by omega
    simp [Sort.putRow, Sort.mapBlock, Sort.ahead, Array.getElem?_modify, this]
  · exact absurd hk (by omega)
theorem kv_swk {g : Nat} {w w' : World} {d0 d : Array (KV × Nat)} (hS : SWK encV 2 w g 0 d w') (R : RowK encV 2 w g 0 d0) (hs : d.size = d0.size) : KvIn w' g (d.toList.map (·.1)) := by
  have hH := hS.holds R.hblk R.hH hs
  refine ⟨hS.lt R.hblk, fun i x hi => ?_, fun i x hi => ?_⟩
  all_goals
    have hl : i < d.size := by have := (List.getElem?_eq_some_iff.1 hi).1; simpa using this
    have hx : d[i]!.1 = x := by
      rw [getElem!_pos d i hl]
      have := (List.getElem?_eq_some_iff.1 hi).2
      simpa using this
  · have := (HoldsK.cell hH hl (show 0 < 2 by omega)).1
    rw [Nat.zero_add, Nat.add_zero] at this
    rw [this, ← hx]; rfl
  · have := (HoldsK.cell hH hl (show 1 < 2 by omega)).1
    rw [Nat.zero_add] at this
    rw [this, ← hx]; rfl
end Go.Proofs.YtceeilojcifgeaaDoor
