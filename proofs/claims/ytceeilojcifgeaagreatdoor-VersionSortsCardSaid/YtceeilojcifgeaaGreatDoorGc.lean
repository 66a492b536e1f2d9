/-
  Versions with their keys: as cells, in rows; the walks of byKey and of what an order of keys is.
-/
import Derived.Test.YtceeilojcifgeaaGreatDoorOwnG
import Derived.Test.YtceeilojcifgeaaGreatDoorStkE
import Derived.Test.YtceeilojcifgeaaGreatDoorVerR
import Derived.Test.YtceeilojcifgeaaGreatDoorArgV
namespace Go.Proofs.YtceeilojcifgeaaGreatDoor
open Go.RowKit Go.Sort

abbrev KV := ByteArray × ByteArray
def kvL (x : KV) : List Value := [.string x.1, .string x.2]
theorem kvL_length (x : KV) : (kvL x).length = 2 := rfl
theorem kvL_one (x : KV) : ∀ u ∈ kvL x, u.oneCell' = true := fun u hu => by
  rcases List.mem_cons.1 hu with rfl | hu
  · rfl
  · rw [List.mem_singleton.1 hu]; rfl
def encV (p : KV × Nat) : List Value := kvL p.1
def cKV (x y : KV) : Int := lx x.2.data.toList y.2.data.toList
theorem lx_lt_trans {a b c : BL} (h1 : lx a b < 0) (h2 : lx b c < 0) : lx a c < 0 := by
  have h3 := lx_trans a b c (by omega) (by omega)
  rcases lx_rng a c with h | h | h
  · omega
  · have e := lx_zero _ _ h; subst e
    rw [lx_swap a b] at h2; omega
  · omega
theorem lx_geq0 {a b c : BL} (h1 : 0 ≤ lx a b) (h2 : 0 ≤ lx b c) : 0 ≤ lx a c := by
  have := lx_trans c b a (by rw [lx_swap b c]; omega) (by rw [lx_swap a b]; omega)
  rw [lx_swap a c] at this; omega
theorem cKV_swo : SWO (ltOf cKV) where
  irrefl x := by unfold ltOf cKV; rw [lx_refl]; rfl
  trans x y z h1 h2 := by unfold ltOf cKV at *; simp only [decide_eq_true_eq] at *; exact lx_lt_trans h1 h2
  ntrans x y z h1 h2 := by unfold ltOf cKV at *; simp only [decide_eq_false_iff_not, Int.not_lt] at *; exact lx_geq0 h1 h2
theorem infoK3 : (Tryz.prog.info? 62).map (fun i => (i.zero, i.size, i.bytes)) = some (some (.agg #[.string ⟨#[]⟩, .string ⟨#[]⟩]), 2, 32) := by kernel_rfl
def OwnK (w : World) (base : Nat) (v : Value) (l : List KV) : Prop := w.ownsRow base 62 2 v l.length (l.flatMap kvL)
theorem OwnK.below {w w' : World} {base : Nat} {v : Value} {l : List KV} (h : OwnK w base v l) (hb : Below w.heap.size w w') : OwnK w' base v l := own_belowG h hb
/-- append(own, x) -/
theorem wpList_append_kv {w : World} {ops : Array Oper} {rest : List Oper} {o : Oper} {a : Act} {Q : Exit → Act → World → Prop} (hgd : o.guard = none) (s x : Operand)
    (ho : o.op = .call { callee := .builtin .append, args := #[s, x], argTypes := #[57, 57] }) (base : Nat) (v : Value) (l : List KV) (n : Nat) (hn : n = l.length) (hs : a.eval s = v) (hown : OwnK w base v l)
    (g : Nat) (y : KV) (hx : a.eval x = .slice (some ⟨g, 0, none⟩) 1 1) (hy : w.heap[g]? = some (.cells (kvL y).toArray 62 (0, 0))) (hlen : n ≤ 1000000) (hbase : base ≤ w.heap.size)
    (h : ∀ sp cap w', Hid (OwnK w' base (.slice sp (n + 1) cap) (l ++ [y])) → Hid (Below base w w') → Hid (w.grownBy w' v.ownBlock) → wpList Tryz.prog ops Q rest (a.put o.dst (.slice sp (n + 1) cap)) w') : wpList Tryz.prog ops Q (o :: rest) a w := by
  subst hn
  obtain ⟨i0, hi0, hz0, hz1, hz2⟩ := info_parts infoK3
  refine wpList_append_own w hgd s x _ ho base _ i0 _ 2 32 Tryz.underlying57 hi0 hz0 hz1 hz2 rfl (by decide) v l.length _ hs hown ⟨g, 0, none⟩ 1 1 (kvL y) hx rfl ?_ (kvL_one y) (by unfold maxLen; omega) (by omega) hbase ?_
  · intro j u hj
    rw [Addr.add_mid, cell_of_row w g (0 + j) _ _ _ hy, Nat.zero_add]
    simpa using hj
  · intro v' w' h1 h2 _
    obtain ⟨sp, cap, rfl⟩ := own_shapeG h1
    exact h sp cap w' (show OwnK _ _ _ _ by unfold OwnK; rw [List.length_append, List.flatMap_append]; simpa using h1) ((Below.refl base w).grown h2 hbase (own_baseG hown)) h2
set_option maxRecDepth 100000 in
set_option maxHeartbeats 400000 in
theorem byKey_any (x y : KV) (W : World) : Calls Tryz.prog 31 #[.agg #[.string x.1, .string x.2], .agg #[.string y.1, .string y.2]] W fun e w' => e = .returned (.int .i64 (cKV x y)) ∧ ∃ q os', w' = Sort.grow (W.drewN q) os' := by
  obtain ⟨a, k⟩ := x; obtain ⟨b, m⟩ := y
  have HE : Hid (cKV (a, k) (b, m) = lx k.data.toList m.data.toList) := rfl
  have HC := Lib.hid (fun w => strCompare_any k.data.toList m.data.toList w)
  rw [bs_of, bs_of] at HC
  rw [HE.out]
  generalize lx k.data.toList m.data.toList = r at *
  have h1 : ((W.alloc (.cells #[.string a, .string k] 62)).alloc (.cells #[.string b, .string m] 62)).cell? ⟨W.heap.size, 1, none⟩ = some (.string k) :=
    (World.cell?_of_block (a := ⟨W.heap.size, 1, none⟩) (Below.heap_alloc _ _ _ (by simp))).trans (by rw [cell_of_row _ W.heap.size 1 _ _ _ (heap_alloc_new W _)]; rfl)
  have h2 : ((W.alloc (.cells #[.string a, .string k] 62)).alloc (.cells #[.string b, .string m] 62)).cell? ⟨W.heap.size + 1, 1, none⟩ = some (.string m) := by
    have h3 := heap_alloc_new (W.alloc (.cells #[.string a, .string k] 62)) (.cells #[.string b, .string m] 62)
    rw [World.size_alloc] at h3
    rw [cell_of_row _ (W.heap.size + 1) 1 _ _ _ h3]; rfl
  clear HE
  go_enter Tryz.func31, Tryz.ntmps31
  go_wp2_with fail
  refine (HC.out _).mono ?_
  rintro e w' ⟨rfl, rfl⟩
  go_wp2_with fail
  go_ret
  exact ⟨rfl, 0, _, by rw [Sort.alloc_eq_grow, Sort.alloc_eq_grow, Sort.grow_grow]; rfl⟩
theorem byKey_enters : ∀ args w, (callFunc 31 args).run Tryz.prog w = .ok (.enter 31 args) w := enters_of Tryz.func31 (by kernel_rfl) rfl
/-- the elements with their places -/
def tagV (l : List KV) : Array (KV × Nat) := l.zipIdx.toArray
theorem tagV_size (l : List KV) : (tagV l).size = l.length := by simp [tagV]
theorem tagV_get (l : List KV) (i : Nat) (hi : i < l.length) : (tagV l)[i]! = (l[i], i) := by
  rw [getElem!_pos _ i (by rw [tagV_size]; exact hi)]; simp [tagV]
/-- rows that are read -/
structure KvIn (w : World) (g : Nat) (l : List KV) : Prop where
  lt : g < w.heap.size
  a : ∀ i x, l[i]? = some x → w.cell? ⟨g, i * 2, none⟩ = some (.string x.1)
  b : ∀ i x, l[i]? = some x → w.cell? ⟨g, i * 2 + 1, none⟩ = some (.string x.2)
theorem KvIn.below {w w' : World} {g : Nat} {l : List KV} {B : Nat} (h : KvIn w g l) (hb : Below B w w') (hB : g < B) : KvIn w' g l :=
  ⟨Nat.lt_of_lt_of_le h.lt hb.size, fun i x hi => (hb.cell (p := ⟨g, i * 2, none⟩) hB).trans (h.a i x hi), fun i x hi => (hb.cell (p := ⟨g, i * 2 + 1, none⟩) hB).trans (h.b i x hi)⟩
theorem OwnK.kv {w : World} {base g n cap : Nat} {l : List KV} (h : OwnK w base (.slice (some ⟨g, 0, none⟩) n cap) l) (hn : l.length = n) : KvIn w g l ∧ base ≤ g ∧ ∃ cur, w.heap[g]? = some (.cells cur 62 (0, 0)) ∧ n ≤ cap := by
  have h1 := h
  obtain ⟨_, ⟨e, _⟩ | ⟨g', cap', cur, e, hb, hg, hle, _⟩⟩ := h
  · cases e
  · injection e with e1 e2 e3
    injection e1 with e1; injection e1 with e1
    subst e1; subst e3
    obtain ⟨hlt, hc, hr⟩ := own_rangeG (f := kvL) h1 (fun x _ => kvL_length x) hn
    refine ⟨⟨hlt, fun i x hi => ?_, fun i x hi => ?_⟩, hb, cur, hg, hc⟩
    · have := hr i x hi 0 _ rfl; simpa using this
    · have := hr i x hi 1 _ rfl; simpa using this
theorem holdsV {w : World} {g : Nat} {l : List KV} {cur : Array Value} (h : KvIn w g l) (hg : w.heap[g]? = some (.cells cur 62 (0, 0))) : HoldsK encV 2 w g 0 (tagV l) := by
  intro t ht
  rw [Sort.size_flatK, tagV_size] at ht
  refine ⟨?_, by simp [World.frozen?, hg]⟩
  rw [Sort.get_flatK _ _ _ _ (by rw [tagV_size]; exact ht)]
  have hi : t / 2 < l.length := by omega
  rw [tagV_get l _ hi]
  have hx : l[t / 2]? = some l[t / 2] := List.getElem?_eq_getElem hi
  rcases (by omega : t % 2 = 0 ∨ t % 2 = 1) with e | e
  · have h1 := h.a _ _ hx
    have h2 : t / 2 * 2 = t := by omega
    rw [h2] at h1
    rw [e, Nat.zero_add]
    exact h1
  · have h1 := h.b _ _ hx
    rw [e, Nat.zero_add]
    have h2 : t / 2 * 2 + 1 = t := by omega
    rw [h2] at h1
    exact h1
theorem rowV {w : World} {g : Nat} {l : List KV} {cur : Array Value} (h : KvIn w g l) (hg : w.heap[g]? = some (.cells cur 62 (0, 0))) : RowK encV 2 w g 0 (tagV l) :=
  ⟨fun _ => rfl, fun x => kvL_one x.1, holdsV h hg, h.lt⟩
theorem below_swk {base g : Nat} {w w' : World} {d : Array (KV × Nat)} (hS : SWK encV 2 w g 0 d w') (hg : base ≤ g) (hgw : g < w.heap.size) : Below base w w' := by
  obtain ⟨m, os, rfl⟩ := hS
  unfold sortWorldK Sort.putRowK
  refine ⟨rfl, rfl, rfl, by simp, fun k hk => ?_⟩
  by_cases hkw : k < w.heap.size
  · rw [Sort.heap_grow_old _ _ (by simpa using hkw)]
    have : g ≠ k := by omega
    simp [Sort.putRow, Sort.mapBlock, Sort.ahead, Array.getElem?_modify, this]
  · exact absurd hk (by omega)
theorem kv_swk {g : Nat} {w w' : World} {d0 d : Array (KV × Nat)} (hS : SWK encV 2 w g 0 d w') (R : RowK encV 2 w g 0 d0) (hs : d.size = d0.size) : KvIn w' g (d.toList.map (·.1)) := by
  have hH := hS.holds R.hblk R.hH hs
  refine ⟨hS.lt R.hblk, fun i x hi => ?_, fun i x hi => ?_⟩
  all_goals
    have hl : i < d.size := by have := (List.getElem?_eq_some_iff.1 hi).1; simpa using this
    have hx : d[i]!.1 = x := by
      rw [getElem!_pos d i hl]
      have := (List.getElem?_eq_some_iff.1 hi).2
      simpa using this
  · have := (HoldsK.cell hH hl (show 0 < 2 by omega)).1
    rw [Nat.zero_add, Nat.add_zero] at this
    rw [this, ← hx]; rfl
  · have := (HoldsK.cell hH hl (show 1 < 2 by omega)).1
    rw [Nat.zero_add] at this
    rw [this, ← hx]; rfl
end Go.Proofs.YtceeilojcifgeaaGreatDoor

namespace Go.Proofs.YtceeilojcifgeaaGreatDoor
open Go.RowKit Go.Sort

theorem isNot_fn (n b : Nat) (w : World) : (binOp .neq 27 (.func (.func n) #[.pointer (some ⟨b, 0, none⟩)] #[]) .nilFunc).run Tryz.prog w = .ok (.bool true) w := by kernel_rfl
theorem isNot_nil (w : World) : (binOp .neq 27 .nilFunc .nilFunc).run Tryz.prog w = .ok (.bool false) w := by kernel_rfl
set_option maxRecDepth 100000 in
set_option maxHeartbeats 1000000 in
theorem known_any (s : Int) (w : World) :
    Calls Tryz.prog 45 #[.int .i64 s] w fun e w' => e = .returned (.bool (schB s)) ∧ Below w.heap.size w w' := by
  have HA := Lib.hid (fun o => (Below.refl w.heap.size w).alloc (Nat.le_refl _) o)
  cases h : schB s
  · have HU := Lib.hid (fun w' => under_no s h w.heap.size w')
    have hnn := isNot_nil (w.alloc (.cells #[.string ⟨#[]⟩, .slice none 0 0] 54))
    clear h
    go_enter Tryz.func45, Tryz.ntmps45
    go_wp2_with fail
    refine (HU.out _).mono ?_
    rintro e w' ⟨rfl, rfl⟩
    go_wp2_with fail
    go_ret
    exact ⟨rfl, HA.out _⟩
  · rcases sch_cases h with rfl | rfl | rfl
    · have HU := Lib.hid (fun w' => under_1 w.heap.size w')
      have hnf := isNot_fn 38 w.heap.size (w.alloc (.cells #[.string ⟨#[]⟩, .slice none 0 0] 54))
      clear h
      go_enter Tryz.func45, Tryz.ntmps45
      go_wp2_with fail
      refine (HU.out _).mono ?_
      rintro e w' ⟨rfl, rfl⟩
      go_wp2_with fail
      go_ret
      exact ⟨rfl, HA.out _⟩
    · have HU := Lib.hid (fun w' => under_2 w.heap.size w')
      have hnf := isNot_fn 39 w.heap.size (w.alloc (.cells #[.string ⟨#[]⟩, .slice none 0 0] 54))
      clear h
      go_enter Tryz.func45, Tryz.ntmps45
      go_wp2_with fail
      refine (HU.out _).mono ?_
      rintro e w' ⟨rfl, rfl⟩
      go_wp2_with fail
      go_ret
      exact ⟨rfl, HA.out _⟩
    · have HU := Lib.hid (fun w' => under_3 w.heap.size w')
      have hnf := isNot_fn 40 w.heap.size (w.alloc (.cells #[.string ⟨#[]⟩, .slice none 0 0] 54))
      clear h
      go_enter Tryz.func45, Tryz.ntmps45
      go_wp2_with fail
      refine (HU.out _).mono ?_
      rintro e w' ⟨rfl, rfl⟩
      go_wp2_with fail
      go_ret
      exact ⟨rfl, HA.out _⟩
/-- strings that are read -/
structure StrR (W : World) (sp : Option Addr) (n : Nat) (l : List ByteArray) : Prop where
  len : l.length = n
  cells : 0 < n → ∃ b off, sp = some ⟨b, off, none⟩ ∧ b < W.heap.size ∧ ∀ i v, l[i]? = some v → W.cell? ⟨b, off + i, none⟩ = some (.string v)
theorem StrA.r {W : World} {sp : Option Addr} {n cap : Nat} {l : List ByteArray} (h : StrA W sp n cap l) : StrR W sp n l := ⟨h.len, fun hn => by
  obtain ⟨b, off, e, hb, _, hc⟩ := h.cells hn; exact ⟨b, off, e, hb, hc⟩⟩
theorem StrR.below {w w' : World} {sp : Option Addr} {n : Nat} {l : List ByteArray} (h : StrR w sp n l) (hb : Below w.heap.size w w') : StrR w' sp n l := ⟨h.len, fun hn => by
  obtain ⟨b, off, e, hlt, hc⟩ := h.cells hn
  exact ⟨b, off, e, Nat.lt_of_lt_of_le hlt hb.size, fun i v hi => (hb.cell (p := ⟨b, off + i, none⟩) hlt).trans (hc i v hi)⟩⟩
/-- a version's key, as a string -/
def keyB (s : Int) (v : ByteArray) : ByteArray := bs (keyR s v.data.toList).1
def validAll (s : Int) (l : List ByteArray) : Bool := l.all (fun v => valB s v.data.toList)
def kvs (s : Int) (l : List ByteArray) : List KV := l.map (fun v => (v, keyB s v))
/-- the first error of a list -/
def errW (s : Int) (l : List ByteArray) : Int := if schB s = true then (if validAll s l = true then 0 else 1) else 14
theorem valB_key {s : Int} {l : BL} : valB s l = true ↔ (keyR s l).2 = 0 := by unfold valB; rw [beq_iff_eq]
def WkP (s : Int) (l : List ByteArray) (w : World) (e : Ending) (w' : World) : Prop :=
  ∃ sp n cap, e = .returned (.tuple #[.slice sp n cap, .int .i64 (errW s l)]) ∧ (errW s l = 0 → n = l.length ∧ OwnK w' w.heap.size (.slice sp n cap) (kvs s l)) ∧ (errW s l ≠ 0 → sp = none ∧ n = 0 ∧ cap = 0) ∧ Below w.heap.size w w'
set_option maxRecDepth 100000 in
set_option maxHeartbeats 2000000 in
theorem withKeys_any (s : Int) (sp : Option Addr) (n cap : Nat) (l : List ByteArray) (w : World) (hl : StrR w sp n l) (hn : n ≤ 1000) :
    Calls Tryz.prog 29 #[.int .i64 s, .slice sp n cap] w (WkP s l w) := by
  have HL := Lib.hid hl
  have HK := Lib.hid (fun w => known_any s w)
  have HKEY := Lib.hid (fun l w => key_any s l w)
  clear hl
  cases hs : schB s
  · rw [hs] at HK
    have HE := Lib.hid (show errW s l = 14 by unfold errW; rw [hs]; rfl)
    clear hs
    go_enter Tryz.func29, Tryz.ntmps29
    go_wp2_with fail
    refine (HK.out _).mono ?_
    rintro e w1 ⟨rfl, b1⟩
    have B1 := Lib.hid b1; clear b1
    go_wp2_with fail
    go_ret2
    exact ⟨none, 0, 0, by rw [HE.out]; rfl, fun h => absurd h (by rw [HE.out]; decide), fun _ => ⟨rfl, rfl, rfl⟩, B1.out⟩
  · rw [hs] at HK
    have HE : Hid (errW s l = if validAll s l = true then 0 else 1) := by show errW s l = _; unfold errW; rw [hs]; rfl
    have HSC := Lib.hid hs
    clear hs
    obtain ⟨i0, hi0, hz0, hz1, hz2⟩ := info_parts infoK3
    have HI0 := Lib.hid hi0; have HZ0 := Lib.hid hz0; have HZ1 := Lib.hid hz1; have HZ2 := Lib.hid hz2
    clear hi0 hz0 hz1 hz2
    go_enter Tryz.func29, Tryz.ntmps29
    go_wp2_with fail
    refine (HK.out _).mono ?_
    rintro e w1 ⟨rfl, b1⟩
    have B1 := Lib.hid b1; clear b1
    go_wp2_with (refine wpList_make_own w1 rfl _ _ 57 rfl w.heap.size 62 i0 _ 2 Tryz.underlying57 HI0.out HZ0.out HZ1.out _ _ _ n rfl rfl rfl (by rw [HZ2.out]; omega) (by unfold maxLen; omega) B1.out.size ?_; intro w2 h1 h2; have HO2 := Lib.hid h1; have HG2 := Lib.hid h2; clear h1 h2)
    have HB2 := Lib.hid (B1.out.grown HG2.out B1.out.size (fun k hk => by cases hk))
    go_loopw [6, 19] (fun v i wr => ∃ (k c : Nat) (g : Option Addr), i = .int .i64 k ∧ v = .slice g k c ∧ k ≤ n ∧ Hid (OwnK wr w.heap.size (.slice g k c) (kvs s (l.take k)) ∧ validAll s (l.take k) = true ∧ Below w.heap.size w wr)) (fun _ i _ => n - (intOf i).toNat)
    case atStart => exact ⟨0, n, some ⟨w1.heap.size, 0, none⟩, rfl, rfl, Nat.zero_le _, (show OwnK _ _ _ _ by exact HO2.out), rfl, HB2.out⟩
    case round =>
      clear HO2 HG2 HB2 B1
      obtain ⟨k, c, g, rfl, rfl, hk, H⟩ := hrel
      have HO := Lib.hid H.out.1; have HV := Lib.hid H.out.2.1; have HB := Lib.hid H.out.2.2
      clear H
      by_cases hlt : k < n
      · have hd : decide ((k : Int) < (n : Int)) = true := by simp; omega
        obtain ⟨b, off, rfl, hbl, hc⟩ := HL.out.cells (by omega)
        obtain ⟨u, hu⟩ : ∃ u, l[k]? = some u := ⟨l[k]'(by have := HL.out.len; omega), List.getElem?_eq_getElem _⟩
        have hcell : wr.cell? ⟨b, off + k, none⟩ = some (.string u) := (HB.out.cell (p := ⟨b, off + k, none⟩) hbl).trans (hc k u hu)
        have HTK := Lib.hid (show l.take (k + 1) = l.take k ++ [u] by rw [List.take_add_one, hu]; rfl)
        have HUM := Lib.hid (List.mem_of_getElem? hu)
        have p0 : (0 : Int) ≤ (k : Int) := by omega
        have p1 : (k : Int) < (n : Int) := by omega
        have HKU := Lib.hid (HKEY.out u.data.toList)
        rw [bs_of] at HKU
        have HKB : Hid (keyB s u = bs (keyR s u.data.toList).1) := rfl
        have hr := keyR_rng s u.data.toList
        have HVU := Lib.hid (@valB_key s u.data.toList)
        have HLK := Lib.hid (show k = (kvs s (l.take k)).length by unfold kvs; rw [List.length_map, List.length_take]; have := HL.out.len; omega)
        clear hc hu
        obtain ⟨m, hm⟩ : ∃ m, (keyR s u.data.toList).2 = m := ⟨_, rfl⟩
        rw [hm] at HKU HVU hr
        have HM := Lib.hid hm
        clear hm
        by_cases hm0 : m = 0
        · subst hm0
          clear hr
          generalize hkb : bs (keyR s u.data.toList).1 = kb at HKU HKB
          have HKE := Lib.hid hkb
          clear hkb
          go_wp2_with fail
          refine (HKU.out _).mono ?_
          rintro e w3 ⟨rfl, b3⟩
          have HO3 := Lib.hid (HO.out.below b3)
          have HB3 := Lib.hid (HB.out.trans (b3.mono HB.out.size))
          clear b3 hcell
          go_wp2_with (refine wpList_append_kv rfl (.tmp 32) (.tmp 36) rfl w.heap.size _ (kvs s (l.take k)) k HLK.out rfl (HO3.out.below ((Below.refl _ _).alloc (Nat.le_refl _) _)) w3.heap.size (u, kb) rfl (heap_alloc_new w3 _) (by omega) (Nat.le_trans HB3.out.size (by simp)) ?_; intro g' c' w4 HO4 HB4 HG4)
          go_roundw
          case rel =>
            refine ⟨k + 1, c', g', by go_num, rfl, by omega, ?_, ?_, ?_⟩
            · rw [HTK.out]; unfold kvs; rw [List.map_append, List.map_singleton, HKB.out]; exact HO4.out
            · rw [HTK.out]; unfold validAll; rw [List.all_append]; simp only [List.all_cons, List.all_nil, Bool.and_true, Bool.and_eq_true]; exact ⟨HV.out, HVU.out.2 (by first | trivial | rfl)⟩
            · exact (HB3.out.trans ((Below.refl _ _).alloc HB3.out.size _)).trans HB4.out
          case measure => simp [intOf]; omega
        · obtain rfl : m = 1 := by
            rcases hr with h | h | h
            · exact absurd h hm0
            · exact h
            · exfalso
              have h2 := HM.out
              unfold keyR at h2; rw [if_pos HSC.out] at h2
              cases hk2 : keyO s u.data.toList
              · rw [hk2] at h2; have h3 : (1 : Int) = 14 := h2.trans h; omega
              · rw [hk2] at h2; have h3 : (0 : Int) = 14 := h2.trans h; omega
          have HE1 := Lib.hid (show errW s l = 1 by
            rw [HE.out, if_neg]
            intro h
            unfold validAll at h
            rw [List.all_eq_true] at h
            have h3 := HVU.out.1 (h u HUM.out)
            cases h3)
          clear hr hm0
          generalize bs (keyR s u.data.toList).1 = kb at HKU HKB
          go_wp2_with fail
          refine (HKU.out _).mono ?_
          rintro e w3 ⟨rfl, b3⟩
          have HB3 := Lib.hid (HB.out.trans (b3.mono HB.out.size))
          clear b3 hcell
          go_wp2_with fail
          go_ret2
          exact ⟨none, 0, 0, by rw [HE1.out]; rfl, fun h => absurd h (by rw [HE1.out]; decide), fun _ => ⟨rfl, rfl, rfl⟩, HB3.out⟩
      · obtain rfl : k = n := by omega
        have hd : decide ((k : Int) < (k : Int)) = false := by simp
        have HTK := Lib.hid (show l.take k = l from List.take_of_length_le (by have := HL.out.len; omega))
        have HE0 := Lib.hid (show errW s l = 0 by rw [HE.out, if_pos]; have := HV.out; rw [HTK.out] at this; exact this)
        have HLE := Lib.hid HL.out.len
        clear hlt
        go_wp2_with fail
        go_ret2
        refine ⟨g, k, c, by rw [HE0.out]; rfl, fun _ => ⟨HLE.out.symm, ?_⟩, fun h => absurd HE0.out h, HB.out⟩
        have := HO.out; rw [HTK.out] at this; exact this
end Go.Proofs.YtceeilojcifgeaaGreatDoor

namespace Go.Proofs.YtceeilojcifgeaaGreatDoor
open Go.RowKit Go.Sort

set_option maxRecDepth 100000 in
set_option maxHeartbeats 1000000 in
theorem insNil_any (F : Value) (w : World) : Calls Tryz.prog 67 #[.slice none 0 0, .int .i64 0, .int .i64 0, F] w fun e w' => e = .returned (.tuple #[]) ∧ w = w' := by
  go_enter Tryz.func67, Tryz.ntmps67
  go_wp2_with fail
  go_loopg [8] 1 (fun g vi wr => vi = .int .i64 1 ∧ w = wr)
  case atStart => exact ⟨rfl, rfl⟩
  case round =>
    obtain ⟨rfl, rfl⟩ := hrel
    go_wp2_with fail
    go_end0
    exact ⟨rfl, rfl⟩
set_option maxRecDepth 100000 in
set_option maxHeartbeats 1000000 in
theorem stabNil_any (F : Value) (w : World) : Calls Tryz.prog 46 #[.slice none 0 0, .int .i64 0, F] w fun e w' => e = .returned (.tuple #[]) ∧ w = w' := by
  have HI := Lib.hid (fun w => insNil_any F w)
  go_enter Tryz.func46, Tryz.ntmps46
  go_wp2_with fail
  go_loopg [7, 8] 1 (fun g va vb wr => va = .int .i64 0 ∧ vb = .int .i64 20 ∧ w = wr)
  case atStart => exact ⟨rfl, rfl, rfl⟩
  case round =>
    obtain ⟨rfl, rfl, rfl⟩ := hrel
    go_wp2_with fail
    refine (HI.out _).mono ?_
    rintro e w' ⟨rfl, rfl⟩
    go_wp2_with fail
    go_loopg [6] 1 (fun g vs wr => vs = .int .i64 20 ∧ w = wr)
    case atStart => exact ⟨rfl, rfl⟩
    case round =>
      obtain ⟨rfl, rfl⟩ := hrel
      go_wp2_with fail
      go_end0
      exact ⟨rfl, rfl⟩
set_option maxRecDepth 100000 in
set_option maxHeartbeats 1000000 in
theorem sortNil_any (F : Value) (w : World) : Calls Tryz.prog 30 #[.slice none 0 0, F] w fun e w' => e = .returned (.tuple #[]) ∧ w = w' := by
  have HI := Lib.hid (fun w => stabNil_any F w)
  go_enter Tryz.func30, Tryz.ntmps30
  go_wp2_with fail
  refine (HI.out _).mono ?_
  rintro e w' ⟨rfl, rfl⟩
  go_wp2_with fail
  go_end0
  exact ⟨rfl, rfl⟩
/-- m is ks in order, equals as they stood -/
def StSorted (ks m : List KV) : Prop := ∃ d' : Array (KV × Nat), d'.size = ks.length ∧ PermIn 0 ks.length (tagV ks) d' ∧ St (ltOf cKV) 0 ks.length d' ∧ m = d'.toList.map (·.1)
theorem StSorted.len {ks m : List KV} (h : StSorted ks m) : m.length = ks.length := by
  obtain ⟨d, h1, _, _, rfl⟩ := h; simp [h1]
theorem StSorted.perm {ks m : List KV} (h : StSorted ks m) : m.Perm ks := by
  obtain ⟨d, h1, h2, _, rfl⟩ := h
  have h3 := h2.2.2
  have e1 : (d.extract 0 ks.length).toList = d.toList := by rw [← h1]; simp
  have e2 : ((tagV ks).extract 0 ks.length).toList = (tagV ks).toList := by rw [← tagV_size ks]; simp
  rw [e1, e2] at h3
  have h4 := h3.map (·.1)
  rw [show (tagV ks).toList.map (·.1) = ks by simp [tagV]] at h4
  exact h4
theorem sortV_any (base g n cap : Nat) (ks : List KV) (w : World) (h : OwnK w base (.slice (some ⟨g, 0, none⟩) n cap) ks) (hn : ks.length = n) (hbd : n ≤ 1000) :
    Calls Tryz.prog 30 #[.slice (some ⟨g, 0, none⟩) n cap, .func (.func 31) #[] #[]] w fun e w' => e = .returned (.tuple #[]) ∧ ∃ m, StSorted ks m ∧ KvIn w' g m ∧ Below base w w' := by
  obtain ⟨hk, hb, cur, hg, hc⟩ := h.kv hn
  have R := rowV hk hg
  have C := StkSortStable encV cKV cKV_swo 31 g 0 cap (tagV ks) w byKey_enters (fun x => ⟨x.1.1, x.1.2, rfl⟩) (fun m os dk hdk x y => byKey_any x.1 y.1 _) R (by rw [tagV_size]; omega) (fun k hk => by rw [tagV_get ks k (by rwa [tagV_size] at hk)])
  rw [tagV_size, hn] at C
  refine C.mono ?_
  rintro e w' ⟨he, d', h1, h2, h3, hS⟩
  refine ⟨he, _, ⟨d', by rw [h1, hn], by rw [hn]; exact h2, by rw [hn]; exact h3, rfl⟩, kv_swk hS R (by rw [h1, tagV_size, hn]), below_swk hS hb hk.lt⟩
theorem infoStr3 : (Tryz.prog.info? 9).map (fun i => (i.zero, i.size, i.bytes)) = some (some (.string ⟨#[]⟩), 1, 16) := by kernel_rfl
def OwnS (w : World) (base : Nat) (v : Value) (l : List ByteArray) : Prop := w.ownsRow base 9 1 v l.length (l.map Value.string)
theorem OwnS.below {w w' : World} {base : Nat} {v : Value} {l : List ByteArray} (h : OwnS w base v l) (hb : Below w.heap.size w w') : OwnS w' base v l := own_belowG h hb
theorem OwnS.base {w : World} {b b' : Nat} {v : Value} {l : List ByteArray} (h : OwnS w b v l) (hb : b' ≤ b) : OwnS w b' v l := by
  obtain ⟨hl, h1 | ⟨g, cap, cur, e, hbg, rest⟩⟩ := h
  · exact ⟨hl, .inl h1⟩
  · exact ⟨hl, .inr ⟨g, cap, cur, e, Nat.le_trans hb hbg, rest⟩⟩
theorem OwnS.nil (w : World) (base : Nat) : OwnS w base (.slice none 0 0) [] := World.ownsRow_nil w base _ _
/-- append(own, x) -/
theorem wpList_append_sv {w : World} {ops : Array Oper} {rest : List Oper} {o : Oper} {a : Act} {Q : Exit → Act → World → Prop} (hgd : o.guard = none) (s x : Operand)
    (ho : o.op = .call { callee := .builtin .append, args := #[s, x], argTypes := #[29, 29] }) (base : Nat) (v : Value) (l : List ByteArray) (n : Nat) (hn : n = l.length) (hs : a.eval s = v) (hown : OwnS w base v l)
    (g : Nat) (y : ByteArray) (hx : a.eval x = .slice (some ⟨g, 0, none⟩) 1 1) (hy : w.heap[g]? = some (.cells #[.string y] 9 (0, 0))) (hlen : n ≤ 1000000) (hbase : base ≤ w.heap.size)
    (h : ∀ sp cap w', Hid (OwnS w' base (.slice sp (n + 1) cap) (l ++ [y])) → Hid (Below base w w') → Hid (w.grownBy w' v.ownBlock) → wpList Tryz.prog ops Q rest (a.put o.dst (.slice sp (n + 1) cap)) w') : wpList Tryz.prog ops Q (o :: rest) a w := by
  subst hn
  obtain ⟨i0, hi0, hz0, hz1, hz2⟩ := info_parts infoStr3
  refine wpList_append_own w hgd s x _ ho base _ i0 _ 1 16 Tryz.underlying29 hi0 hz0 hz1 hz2 rfl (by decide) v l.length _ hs hown ⟨g, 0, none⟩ 1 1 [.string y] hx rfl ?_ (by intro u hu; rw [List.mem_singleton.1 hu]; rfl) (by unfold maxLen; omega) (by omega) hbase ?_
  · intro j u hj
    rw [Addr.add_mid, cell_of_row w g (0 + j) _ _ _ hy, Nat.zero_add]
    simpa using hj
  · intro v' w' h1 h2 _
    obtain ⟨sp, cap, rfl⟩ := own_shapeG h1
    exact h sp cap w' (show OwnS _ _ _ _ by unfold OwnS; rw [List.length_append, List.map_append]; simpa using h1) ((Below.refl base w).grown h2 hbase (own_baseG hown)) h2
def SrtP (s : Int) (l : List ByteArray) (w : World) (e : Ending) (w' : World) : Prop :=
  ∃ sp n cap, e = .returned (.tuple #[.slice sp n cap, .int .i64 (errW s l)]) ∧ (errW s l = 0 → ∃ m, StSorted (kvs s l) m ∧ n = l.length ∧ OwnS w' w.heap.size (.slice sp n cap) (m.map (·.1))) ∧ (errW s l ≠ 0 → sp = none ∧ n = 0 ∧ cap = 0) ∧ Below w.heap.size w w'
theorem kvs_len (s : Int) (l : List ByteArray) : (kvs s l).length = l.length := by simp [kvs]
theorem StSorted.nil : StSorted [] [] := ⟨#[], rfl, permIn_refl _ _ _, fun i j _ h2 h3 => by simp at h3, rfl⟩
set_option maxRecDepth 100000 in
set_option maxHeartbeats 2000000 in
theorem sort_any (s : Int) (sp : Option Addr) (n cap : Nat) (l : List ByteArray) (w : World) (hl : StrR w sp n l) (hn : n ≤ 1000) :
    Calls Tryz.prog 16 #[.int .i64 s, .slice sp n cap] w (SrtP s l w) := by
  have HWK := Lib.hid (withKeys_any s sp n cap l w hl hn)
  have HLN := Lib.hid hl.len
  clear hl
  obtain ⟨er, her⟩ : ∃ er, errW s l = er := ⟨_, rfl⟩
  have HER := Lib.hid her
  have hr : er = 0 ∨ er = 1 ∨ er = 14 := by
    rw [← her]; unfold errW; split
    · split
      · exact .inl rfl
      · exact .inr (.inl rfl)
    · exact .inr (.inr rfl)
  clear her
  rcases hr with rfl | rfl | rfl
  · obtain ⟨i0, hi0, hz0, hz1, hz2⟩ := info_parts infoStr3
    have HI0 := Lib.hid hi0; have HZ0 := Lib.hid hz0; have HZ1 := Lib.hid hz1; have HZ2 := Lib.hid hz2
    clear hi0 hz0 hz1 hz2
    have main : ∀ (sp1 : Option Addr) (c1 : Nat) (w1 : World), OwnK w1 w.heap.size (.slice sp1 n c1) (kvs s l) → Below w.heap.size w w1 →
        Calls Tryz.prog 30 #[.slice sp1 n c1, .func (.func 31) #[] #[]] w1 fun e w' => e = .returned (.tuple #[]) ∧ ∃ m, StSorted (kvs s l) m ∧ (0 < n → ∃ g, sp1 = some ⟨g, 0, none⟩ ∧ KvIn w' g m) ∧ Below w.heap.size w w' := by
      intro sp1 c1 w1 ho hb
      have ho' := ho
      obtain ⟨_, ⟨e, h0⟩ | ⟨g, cap', cur, e, _⟩⟩ := ho
      · injection e with e1 e2 e3
        subst e1 e2 e3
        have e4 : kvs s l = [] := List.eq_nil_of_length_eq_zero h0
        refine (sortNil_any _ w1).mono ?_
        rintro e w' ⟨he, rfl⟩
        exact ⟨he, [], by rw [e4]; exact StSorted.nil, fun h => absurd h (by omega), hb⟩
      · injection e with e1 e2 e3
        subst e1
        refine (sortV_any w.heap.size g n c1 (kvs s l) w1 ho' (by rw [kvs_len, HLN.out]) hn).mono ?_
        rintro e w' ⟨he, m, h1, h2, h3⟩
        exact ⟨he, m, h1, fun _ => ⟨g, rfl, h2⟩, hb.trans h3⟩
    have MAIN := Lib.hid main
    clear main
    go_enter Tryz.func16, Tryz.ntmps16
    go_wp2_with fail
    refine HWK.out.mono ?_
    rintro e w1 ⟨sp1, n1, c1, he, h1, _, b1⟩
    rw [HER.out] at he h1
    have h3 := h1 rfl
    clear h1
    obtain ⟨h1, h2⟩ := h3
    rw [HLN.out] at h1
    subst he h1
    have HS := Lib.hid (MAIN.out sp1 c1 w1 h2 b1)
    clear h2 b1
    go_wp2_with fail
    refine HS.out.mono ?_
    rintro e w2 ⟨rfl, m, hm1, hm2, hm3⟩
    have HM := Lib.hid hm1; have HKV := Lib.hid hm2; have HB2 := Lib.hid hm3
    clear hm1 hm2 hm3
    go_wp2_with (refine wpList_make_own w2 rfl _ _ 29 rfl w2.heap.size 9 i0 _ 1 Tryz.underlying29 HI0.out HZ0.out HZ1.out _ _ _ n1 rfl rfl rfl (by rw [HZ2.out]; omega) (by unfold maxLen; omega) (Nat.le_refl _) ?_; intro w3 h1 h2; have HO3 := Lib.hid h1; have HG3 := Lib.hid h2; clear h1 h2)
    have HB3 := Lib.hid ((Below.refl w2.heap.size w2).grown HG3.out (Nat.le_refl _) (fun k hk => by cases hk))
    go_loopw [8, 27] (fun v i wr => ∃ (k c : Nat) (g : Option Addr), i = .int .i64 k ∧ v = .slice g k c ∧ k ≤ n1 ∧ Hid (OwnS wr w2.heap.size (.slice g k c) ((m.take k).map (·.1)) ∧ Below w2.heap.size w2 wr)) (fun _ i _ => n1 - (intOf i).toNat)
    case atStart => exact ⟨0, n1, some ⟨w2.heap.size, 0, none⟩, rfl, rfl, Nat.zero_le _, (show OwnS _ _ _ _ by exact HO3.out), HB3.out⟩
    case round =>
      clear HO3 HG3 HB3 HS
      obtain ⟨k, c, gv, rfl, rfl, hk, H⟩ := hrel
      have HO := Lib.hid H.out.1; have HB := Lib.hid H.out.2
      clear H
      have HML := Lib.hid (show m.length = n1 by rw [HM.out.len, kvs_len, HLN.out])
      by_cases hlt : k < n1
      · have hd : decide ((k : Int) < (n1 : Int)) = true := by simp; omega
        obtain ⟨g, rfl, hkv⟩ := HKV.out (by omega)
        obtain ⟨u, hu⟩ : ∃ u, m[k]? = some u := ⟨m[k]'(by have := HML.out; omega), List.getElem?_eq_getElem _⟩
        have hkv := hkv.below HB.out hkv.lt
        have hc1 : wr.cell? ⟨g, k * 2, none⟩ = some (.string u.1) := hkv.a k u hu
        have hc2 : wr.cell? ⟨g, k * 2 + 1, none⟩ = some (.string u.2) := hkv.b k u hu
        have HTK := Lib.hid (show m.take (k + 1) = m.take k ++ [u] by rw [List.take_add_one, hu]; rfl)
        have HLK := Lib.hid (show k = ((m.take k).map (·.1)).length by rw [List.length_map, List.length_take]; have := HML.out; omega)
        have p0 : (0 : Int) ≤ (k : Int) := by omega
        have p1 : (k : Int) < (n1 : Int) := by omega
        obtain ⟨ua, ub⟩ := u
        dsimp only at hc1 hc2
        have HY := Lib.hid (show ((wr.alloc (.cells #[.string ua, .string ub] 62)).alloc (.cells #[.string ua] 9)).heap[wr.heap.size + 1]? = some (.cells #[.string ua] 9 (0, 0)) by have := heap_alloc_new (wr.alloc (.cells #[.string ua, .string ub] 62)) (.cells #[.string ua] 9); rwa [World.size_alloc] at this)
        clear hkv hu
        go_wp2_with (at_builtin; refine wpList_append_sv rfl (.tmp 31) (.tmp 34) rfl w2.heap.size _ ((m.take k).map (·.1)) k HLK.out rfl (HO.out.below (((Below.refl _ _).alloc (Nat.le_refl _) _).alloc (by simp) _)) (wr.heap.size + 1) ua rfl HY.out (by omega) (Nat.le_trans HB.out.size (by simp; omega)) ?_; intro g' c' w4 HO4 HB4 HG4)
        have HB5 := Lib.hid (((HB.out.trans ((Below.refl _ _).alloc HB.out.size _)).trans ((Below.refl _ _).alloc (Nat.le_trans HB.out.size (by simp)) _)).trans HB4.out)
        go_roundw
        case rel =>
          refine ⟨k + 1, c', g', by go_num, rfl, by omega, ?_, HB5.out⟩
          rw [HTK.out, List.map_append]; exact HO4.out
        case measure => simp [intOf]; omega
      · obtain rfl : k = n1 := by omega
        have hd : decide ((k : Int) < (k : Int)) = false := by simp
        have HTK := Lib.hid (show m.take k = m from List.take_of_length_le (by have := HML.out; omega))
        have HLE := Lib.hid HLN.out
        clear hlt
        go_wp2_with fail
        go_ret2
        refine ⟨gv, k, c, by rw [HER.out]; rfl, fun _ => ⟨m, HM.out, HLE.out.symm, ?_⟩, fun h => absurd HER.out h, HB2.out.trans (HB.out.mono HB2.out.size)⟩
        have := HO.out; rw [HTK.out] at this
        exact this.base HB2.out.size
  · go_enter Tryz.func16, Tryz.ntmps16
    go_wp2_with fail
    refine HWK.out.mono ?_
    rintro e w1 ⟨sp1, n1, c1, he, _, h2, b1⟩
    rw [HER.out] at he h2
    subst he
    have B1 := Lib.hid b1; clear b1 h2
    go_wp2_with fail
    go_ret2
    exact ⟨none, 0, 0, by rw [HER.out]; rfl, fun h => absurd (HER.out.symm.trans h) (by decide), fun _ => ⟨rfl, rfl, rfl⟩, B1.out⟩
  · go_enter Tryz.func16, Tryz.ntmps16
    go_wp2_with fail
    refine HWK.out.mono ?_
    rintro e w1 ⟨sp1, n1, c1, he, _, h2, b1⟩
    rw [HER.out] at he h2
    subst he
    have B1 := Lib.hid b1; clear b1 h2
    go_wp2_with fail
    go_ret2
    exact ⟨none, 0, 0, by rw [HER.out]; rfl, fun h => absurd (HER.out.symm.trans h) (by decide), fun _ => ⟨rfl, rfl, rfl⟩, B1.out⟩
theorem OwnS.r {w : World} {base n cap : Nat} {sp : Option Addr} {l : List ByteArray} (h : OwnS w base (.slice sp n cap) l) (hn : l.length = n) : StrR w sp n l := by
  refine ⟨hn, fun hp => ?_⟩
  have h1 := h
  obtain ⟨_, ⟨e, h0⟩ | ⟨g, cap', cur, e, _⟩⟩ := h1
  · omega
  · injection e with e1 e2 e3
    subst e1
    have h2 : w.ownsRow base 9 1 (.slice (some ⟨g, 0, none⟩) n cap) l.length (l.flatMap fun x => [Value.string x]) := by
      rw [← List.map_eq_flatMap]; exact h
    obtain ⟨hlt, _, hr⟩ := own_rangeG h2 (fun _ _ => rfl) hn
    refine ⟨g, 0, rfl, hlt, fun i v hi => ?_⟩
    have h3 := hr i v hi 0 _ rfl
    rw [Nat.mul_one] at h3
    exact h3
theorem cKV_swap (x y : KV) : cKV y x = - cKV x y := by unfold cKV; exact lx_swap _ _
end Go.Proofs.YtceeilojcifgeaaGreatDoor

namespace Go.Proofs.YtceeilojcifgeaaGreatDoor
open Go.RowKit Go.Sort

def insV (out : List KV) (x : KV) : List KV := out.takeWhile (fun y => decide (cKV y x ≤ 0)) ++ x :: out.dropWhile (fun y => decide (cKV y x ≤ 0))
def refV (ks : List KV) : List KV := ks.foldl insV []
def insT (out : List (KV × Nat)) (x : KV × Nat) : List (KV × Nat) := out.takeWhile (fun y => decide (cKV y.1 x.1 ≤ 0)) ++ x :: out.dropWhile (fun y => decide (cKV y.1 x.1 ≤ 0))
theorem insT_map (out : List (KV × Nat)) (x : KV × Nat) : (insT out x).map (·.1) = insV (out.map (·.1)) x.1 := by
  unfold insT insV
  rw [List.map_append, List.map_cons, List.takeWhile_map, List.dropWhile_map]; rfl
theorem insT_perm (out : List (KV × Nat)) (x : KV × Nat) : (insT out x).Perm (out ++ [x]) := by
  unfold insT
  refine List.perm_middle.trans ?_
  rw [List.takeWhile_append_dropWhile]
  exact (List.perm_append_comm (l₁ := [x]) (l₂ := out))
theorem dropWhile_head {α : Type} (p : α → Bool) : ∀ (l : List α) z r, l.dropWhile p = z :: r → p z = false
  | [], z, r, h => by simp at h
  | a :: l, z, r, h => by
    cases hp : p a
    · rw [List.dropWhile_cons_of_neg (by simp [hp])] at h
      injection h with h1 _; subst h1; exact hp
    · rw [List.dropWhile_cons_of_pos hp] at h
      exact dropWhile_head p l z r h
theorem insT_sorted (out : List (KV × Nat)) (x : KV × Nat) (h : out.Pairwise (fun a b => tl (ltOf cKV) a b = true)) (hx : ∀ y ∈ out, y.2 < x.2) : (insT out x).Pairwise (fun a b => tl (ltOf cKV) a b = true) := by
  have hT := tl_swo cKV_swo
  have tr : ∀ a b c, tl (ltOf cKV) a b = true → tl (ltOf cKV) b c = true → tl (ltOf cKV) a c = true := fun a b c => hT.trans a b c
  have low : ∀ a ∈ out.takeWhile (fun y => decide (cKV y.1 x.1 ≤ 0)), tl (ltOf cKV) a x = true := by
    intro a ha
    have h1 : cKV a.1 x.1 ≤ 0 := by
      have := List.all_eq_true.1 (List.all_takeWhile (l := out) (p := fun y => decide (cKV y.1 x.1 ≤ 0))) a ha
      simpa using this
    have h2 := hx a ((List.takeWhile_sublist _).mem ha)
    rw [tl_iff]; unfold ltOf
    simp only [decide_eq_true_eq, decide_eq_false_iff_not, Int.not_lt]
    rw [cKV_swap a.1 x.1]
    by_cases h3 : cKV a.1 x.1 < 0
    · exact .inl h3
    · exact .inr ⟨by omega, h2⟩
  have high : ∀ b ∈ out.dropWhile (fun y => decide (cKV y.1 x.1 ≤ 0)), tl (ltOf cKV) x b = true := by
    intro b hb
    cases hd : out.dropWhile (fun y => decide (cKV y.1 x.1 ≤ 0)) with
    | nil => rw [hd] at hb; cases hb
    | cons z r =>
      have h1 := dropWhile_head _ _ _ _ hd
      have h2 : tl (ltOf cKV) x z = true := by
        rw [tl_iff]; left; unfold ltOf
        rw [cKV_swap z.1 x.1]
        simp only [decide_eq_false_iff_not, Int.not_le] at h1
        simp only [decide_eq_true_eq]; omega
      have h3 : (z :: r).Pairwise (fun a b => tl (ltOf cKV) a b = true) := by rw [← hd]; exact h.sublist (List.dropWhile_sublist _)
      rw [hd] at hb
      rcases List.mem_cons.1 hb with rfl | hb
      · exact h2
      · exact tr _ _ _ h2 ((List.pairwise_cons.1 h3).1 b hb)
  unfold insT
  rw [List.pairwise_append, List.pairwise_cons]
  refine ⟨h.sublist (List.takeWhile_sublist _), ⟨high, h.sublist (List.dropWhile_sublist _)⟩, fun a ha b hb => ?_⟩
  rcases List.mem_cons.1 hb with rfl | hb
  · exact low a ha
  · exact tr _ _ _ (low a ha) (high b hb)
theorem fold_ins : ∀ (l : List KV) (k : Nat) (out : List (KV × Nat)), out.Pairwise (fun a b => tl (ltOf cKV) a b = true) → (∀ y ∈ out, y.2 < k) →
    ((l.zipIdx k).foldl insT out).Pairwise (fun a b => tl (ltOf cKV) a b = true) ∧ ((l.zipIdx k).foldl insT out).Perm (out ++ l.zipIdx k) ∧ ((l.zipIdx k).foldl insT out).map (·.1) = l.foldl insV (out.map (·.1))
  | [], k, out, h, _ => ⟨h, by simp, rfl⟩
  | x :: l, k, out, h, hk => by
    have hp := insT_perm out (x, k)
    obtain ⟨h1, h2, h3⟩ := fold_ins l (k + 1) (insT out (x, k)) (insT_sorted out (x, k) h hk) (fun y hy => by
      have := hp.mem_iff.1 hy
      rcases List.mem_append.1 this with h4 | h4
      · have := hk y h4; omega
      · rw [List.mem_singleton.1 h4]; exact Nat.lt_succ_self k)
    refine ⟨h1, h2.trans ?_, ?_⟩
    · rw [List.zipIdx_cons]
      refine (hp.append_right _).trans ?_
      rw [List.append_assoc]; rfl
    · rw [List.zipIdx_cons, List.foldl_cons, List.foldl_cons, h3, insT_map]
theorem StSorted.eq {ks m : List KV} (h : StSorted ks m) : m = refV ks := by
  obtain ⟨d, h1, h2, h3, rfl⟩ := h
  obtain ⟨i1, i2, i3⟩ := fold_ins ks 0 [] List.Pairwise.nil (fun y hy => by cases hy)
  have hT := tl_swo cKV_swo
  have e1 : (d.extract 0 ks.length).toList = d.toList := by rw [← h1]; simp
  have e2 : ((tagV ks).extract 0 ks.length).toList = (tagV ks).toList := by rw [← tagV_size ks]; simp
  have hp : d.toList.Perm ks.zipIdx := by
    have := h2.2.2
    rw [e1, e2] at this
    simpa [tagV] using this
  have hs : d.toList.Pairwise (fun a b => tl (ltOf cKV) a b = true) := by
    rw [List.pairwise_iff_getElem]
    intro i j hi hj hij
    have hi' : i < d.size := by simpa using hi
    have hj' : j < d.size := by simpa using hj
    have := h3 i j (Nat.zero_le _) hij (by omega)
    rw [getElem!_pos d i hi', getElem!_pos d j hj'] at this
    simpa using this
  have he : d.toList = ks.zipIdx.foldl insT [] := by
    refine List.Perm.eq_of_pairwise (le := fun a b => tl (ltOf cKV) a b = true) ?_ hs i1 (hp.trans (by simpa using i2.symm))
    intro a b _ _ h4 h5
    have := hT.trans a b a h4 h5
    rw [hT.irrefl] at this; cases this
  rw [he, i3]; rfl
end Go.Proofs.YtceeilojcifgeaaGreatDoor
