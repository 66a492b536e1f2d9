/-
  Stores: maps from digests to slices that a call makes; the walk of dataOf.
-/
import Derived.Test.YtdjknefbaclleaaGreatDoorGw
import Derived.Test.YtdjknefbaclleaaGreatDoorGk
import Derived.Test.YtdjknefbaclleaaGreatDoorStsG
import Derived.Shelf.SlSortCmp.NoneTotal
import Derived.Test.YtdjknefbaclleaaGreatDoorProg
import Derived.Test.YtdjknefbaclleaaGreatDoorGs
import Derived.Test.YtdjknefbaclleaaGreatDoorGb
namespace Go.Proofs.YtdjknefbaclleaaGreatDoor
open Go.RowKit Go.Sort

/-- an element of a map is kept as it is -/
def heldE (v : Value) : Option (DataW Value × List MemPlace) := some (.held v, [])
/-- a map that the call made: what it holds at the digests -/
def MapIn (w : World) (b n : Nat) (f : List Int → Option Value) : Prop := ∃ D : DataW Value, w.ownsMap Tryz.prog 29 heldE b n D ∧
  ∀ d, D32 d → ∀ kl, keyOf Tryz.prog 29 (.agg (d.map (Value.int .u8)).toArray) = some kl → ∀ zd, D.atKey kl zd = (match f d with | some v => .held v | none => zd)
theorem MapIn.congr {w : World} {b n : Nat} {f g : List Int → Option Value} (h : MapIn w b n f) (hfg : ∀ d, f d = g d) : MapIn w b n g := by
  have : f = g := funext hfg
  rw [← this]; exact h
theorem MapIn.made (w : World) : MapIn (w.alloc (.map #[] 0)) w.heap.size 0 (fun _ => none) := ⟨.map [], World.ownsMap_made w _ _ _, fun _ _ _ _ _ => rfl⟩
theorem MapIn.lt {w : World} {b n : Nat} {f : List Int → Option Value} (h : MapIn w b n f) : b < w.heap.size := by
  obtain ⟨D, h, _⟩ := h; exact h.lt
theorem MapIn.grown {w w' : World} {b n : Nat} {f : List Int → Option Value} {row : Option Nat} (h : MapIn w b n f) (hg : w.grownBy w' row) (hne : some b ≠ row) : MapIn w' b n f := by
  obtain ⟨D, h, hf⟩ := h; exact ⟨D, h.kept hg hne, hf⟩
theorem MapIn.below {w w' : World} {b n : Nat} {f : List Int → Option Value} (h : MapIn w b n f) (hb : Below w.heap.size w w') : MapIn w' b n f :=
  h.grown (row := none) ⟨hb.os, hb.tape, hb.output, hb.size, fun k hk _ => hb.block k hk⟩ (by simp)
set_option maxRecDepth 100000 in
theorem MapIn.look {w : World} {b n : Nat} {f : List Int → Option Value} (h : MapIn w b n f) (d : List Int) (hd : D32 d) :
    (Instr.lookup 60 (.map (some b)) (.agg (d.map (Value.int .u8)).toArray) true).run Tryz.prog w = .ok (match f d with | some v => .tuple #[v, .bool true] | none => .tuple #[.slice none 0 0, .bool false]) w := by
  obtain ⟨D, ⟨es, clock, hb, F, _, hD⟩, hf⟩ := h
  obtain ⟨kl, hk⟩ := keyD d hd
  have h1 := hf d hd kl hk
  rcases Maps.fit_look true keyedK Tryz.underlying60 (z := .slice none 0 0) (by kernel_rfl) hb F hk with ⟨hrun, _, hat⟩ | ⟨e0, y, _, _, hrun, hRv, hat, _⟩
  · rw [hrun]
    cases hfd : f d with
    | none => rfl
    | some v =>
      rw [hfd] at h1
      have h2 := h1 .nil
      rw [hD, hat .nil] at h2; cases h2
  · rw [hrun]
    have hy : y = (.held e0.val, []) := by unfold heldE at hRv; injection hRv with hRv; exact hRv.symm
    cases hfd : f d with
    | none =>
      rw [hfd] at h1
      have h2 := h1 .nil
      rw [hD, hat .nil, hy] at h2; cases h2
    | some v =>
      rw [hfd] at h1
      have h2 := h1 .nil
      rw [hD, hat .nil, hy] at h2
      injection h2 with h2
      rw [h2]; rfl
/-- m[d] = v -/
theorem wpList_mapIn {w : World} {ops : Array Oper} {rest : List Oper} {o : Oper} {a : Act} {Q : Exit → Act → World → Prop} (hgd : o.guard = none) (m x v : Operand) (hop : o.op = Op.mapUpdate 60 m x v) (b n : Nat) (f : List Int → Option Value) (hs : MapIn w b n f) (hn : n < 1000000000000)
    (d : List Int) (hd : D32 d) (val : Value) (hm : a.eval m = .map (some b)) (hx : a.eval x = .agg (d.map (Value.int .u8)).toArray) (hv : a.eval v = val)
    (h : ∀ w', Hid (MapIn w' b (n + 1) (fun y => if y = d then some val else f y)) → Hid (w.grownBy w' (some b)) → wpList Tryz.prog ops Q rest (a.put o.dst undef) w') : wpList Tryz.prog ops Q (o :: rest) a w := by
  obtain ⟨D, h0, hf⟩ := hs
  obtain ⟨kl, hk⟩ := keyD d hd
  refine wpList_mapUpdate_own w hgd m x v 60 hop 29 42 keyedK Tryz.underlying60 heldE b n D hm h0 (by unfold maxLen; omega) _ _ kl hx hv hk (.held val) [] rfl ?_
  intro w' h1 h2
  refine h w' ⟨_, h1, fun y hy ky hky zd => ?_⟩ h2
  by_cases e : y = d
  · subst e
    obtain rfl : ky = kl := Option.some.inj (hky.symm.trans hk)
    rw [Maps.atKey_put_same h0.isMap (keyedK.key hk)]; simp
  · have hne : ky ≠ kl := fun e2 => e (dg_inj (keyedK.inj hky (e2 ▸ hk)))
    rw [Maps.atKey_put_other hne, hf y hy ky hky zd]; simp [e]
/-- what dataOf holds -/
def datF (l : List Bl) (d : List Int) : Option Value := (fnd l d).map (fun x => .slice x.sp x.n x.cap)
theorem datF_old {l : List Bl} {k : Nat} {x : Bl} (hx : l[k]? = some x) {v : Value} (h : datF (l.take k) x.d = some v) : ∀ d, datF (l.take k) d = datF (l.take (k + 1)) d := fun d => by
  unfold datF fnd at *
  rw [List.take_add_one, hx, List.find?_append]
  cases hf : (l.take k).find? (fun y => decide (y.d = d)) with
  | some y => rfl
  | none =>
    have hne : ¬ x.d = d := fun e => by
      subst e
      rw [hf] at h; cases h
    simp [hne]
theorem datF_new {l : List Bl} {k : Nat} {x : Bl} (hx : l[k]? = some x) (h : datF (l.take k) x.d = none) : ∀ d, (if d = x.d then some (Value.slice x.sp x.n x.cap) else datF (l.take k) d) = datF (l.take (k + 1)) d := fun d => by
  unfold datF fnd at *
  rw [List.take_add_one, hx, List.find?_append]
  by_cases e : d = x.d
  · subst e
    rw [if_pos rfl]
    cases hf : (l.take k).find? (fun y => decide (y.d = x.d)) with
    | some y => rw [hf] at h; cases h
    | none => simp
  · rw [if_neg e]
    have hne : ¬ x.d = d := fun e2 => e e2.symm
    cases hf : (l.take k).find? (fun y => decide (y.d = d)) with
    | some y => rfl
    | none => simp [hne]
set_option maxRecDepth 100000 in
theorem run_makeMapH (n : Nat) (w : World) : (Instr.makeMap 60 (some (.int .i64 (n : Int)))).run Tryz.prog w = .ok (.map (some w.heap.size)) (w.alloc (.map #[] 0)) := by
  simp [Instr.makeMap, run_underlying Tryz.underlying60, asInt, asIntOf]
set_option maxRecDepth 100000 in
set_option maxHeartbeats 2000000 in
theorem dataOf_any (sp : Option Addr) (n cap : Nat) (l : List Bl) (w : World) (hl : BlsIn w w.heap.size sp n cap l) (hn : n ≤ 1000000) :
    Calls Tryz.prog 23 #[.slice sp n cap] w fun e w' => ∃ b m, e = .returned (.map (some b)) ∧ MapIn w' b m (datF l) ∧ m ≤ n ∧ w.heap.size ≤ b ∧ Below w.heap.size w w' := by
  have HL := Lib.hid hl; clear hl
  have hmm := run_makeMapH n w
  have HM0 := Lib.hid (MapIn.made w)
  go_enter Tryz.func23, Tryz.ntmps23
  go_wp2_with fail
  clear hmm
  generalize hw0 : World.alloc w _ = w0
  have HM1 := Lib.hid (show MapIn w0 w.heap.size 0 (datF (l.take 0)) by rw [← hw0]; exact HM0.out.congr (fun d => rfl))
  have HB1 := Lib.hid (show Below w.heap.size w w0 by rw [← hw0]; exact (Below.refl _ _).alloc (Nat.le_refl _) _)
  have HZ1 := Lib.hid (show w.heap.size < w0.heap.size by rw [← hw0]; simp)
  clear hw0 HM0
  go_loopw [13] (fun i wr => ∃ k m : Nat, i = .int .i64 k ∧ k ≤ n ∧ m ≤ k ∧ Hid (MapIn wr w.heap.size m (datF (l.take k)) ∧ Below w.heap.size w wr)) (fun i _ => n - (intOf i).toNat)
  case atStart => exact ⟨0, 0, rfl, Nat.zero_le _, Nat.le_refl _, HM1.out, HB1.out⟩
  case round =>
    clear HM1 HB1 HZ1
    obtain ⟨k, m, rfl, hk, hmk, H⟩ := hrel
    have HM := Lib.hid H.out.1; have HB := Lib.hid H.out.2
    clear H
    by_cases hlt : k < n
    · have hd : decide ((k : Int) < (n : Int)) = true := by simp; omega
      obtain ⟨b, off, rfl, hbB, hcap, hr⟩ := HL.out.cells (by omega)
      obtain ⟨x, hx⟩ : ∃ x, l[k]? = some x := ⟨l[k]'(by have := HL.out.len; omega), List.getElem?_eq_getElem _⟩
      have HXM := Lib.hid (List.mem_of_getElem? hx)
      have HX := Lib.hid hx
      have HXR := Lib.hid (range_belowG (hr k x hx) HB.out hbB)
      have HOX := Lib.hid (HL.out.ok x HXM.out)
      have HIB := Lib.hid (info_b HOX.out)
      have HI2 : Hid ((Tryz.prog.info? 50).map (·.size) = some (blL x).toArray.size) := by show _ = _; rw [List.size_toArray]; exact HIB.out
      have HS : Hid (33 = (blL x).toArray.size) := by show _ = _; rw [List.size_toArray, blL_length HOX.out]
      have HID := Lib.hid (info_d HOX.out)
      have p1 : (0 : Int) ≤ (k : Int) := by omega
      have p2 : (k : Int) < (n : Int) := by omega
      clear hr hx
      have HW2 := Lib.hid ((Below.refl wr.heap.size wr).alloc (Nat.le_refl _) (.cells (blL x).toArray 50))
      have HM2 := Lib.hid (HM.out.below HW2.out)
      cases hf : datF (l.take k) x.d with
      | some v =>
        have hlk := HM2.out.look x.d HOX.out
        rw [hf] at hlk
        have HM3 := Lib.hid (HM2.out.congr (datF_old HX.out hf))
        clear hf
        go_wp2_with (first
          | (refine wpList_load_mid rfl 50 _ rfl b (off + k * 33) rfl _ _ HXR.out Tryz.underlying50 rfl HIB.out ?_)
          | (refine wpList_store_row rfl 50 _ _ rfl wr.heap.size _ rfl rfl 50 _ (heap_alloc_new wr _) (by simpa using HI2.out) (by simpa using HS.out) (Array.all_eq_true_iff_forall_mem.2 (by simpa using blL_one x)) ?_; rw [setRow_new]; have HED2 := Lib.hid (show (wr.alloc (.cells (blL x).toArray 50)).rangeAt wr.heap.size 0 (x.d.map (Value.int .u8)) from (BlB.new wr x).d); generalize hw2 : World.alloc wr _ = w2 at *; clear hw2)
          | (refine wpList_load_mid rfl 29 _ rfl wr.heap.size 0 rfl _ _ HED2.out Tryz.underlying29 rfl HID.out ?_))
        have HB3 := Lib.hid (HB.out.trans (HW2.out.mono HB.out.size))
        go_roundw
        case rel => exact ⟨k + 1, m, by go_num, by omega, by omega, HM3.out, HB3.out⟩
        case measure => simp [intOf]; omega
      | none =>
        have hlk := HM2.out.look x.d HOX.out
        rw [hf] at hlk
        have HFN := Lib.hid (datF_new HX.out hf)
        clear hf
        go_wp2_with (first
          | (refine wpList_load_mid rfl 50 _ rfl b (off + k * 33) rfl _ _ HXR.out Tryz.underlying50 rfl HIB.out ?_)
          | (refine wpList_store_row rfl 50 _ _ rfl wr.heap.size _ rfl rfl 50 _ (heap_alloc_new wr _) (by simpa using HI2.out) (by simpa using HS.out) (Array.all_eq_true_iff_forall_mem.2 (by simpa using blL_one x)) ?_; rw [setRow_new]; have HED2 := Lib.hid (show (wr.alloc (.cells (blL x).toArray 50)).rangeAt wr.heap.size 0 (x.d.map (Value.int .u8)) from (BlB.new wr x).d); have hc2 := (BlB.new wr x).s HOX.out; generalize hw2 : World.alloc wr _ = w2 at *; clear hw2)
          | (refine wpList_load_mid rfl 29 _ rfl wr.heap.size 0 rfl _ _ HED2.out Tryz.underlying29 rfl HID.out ?_)
          | (at_mapUpdate; refine wpList_mapIn rfl _ _ _ rfl w.heap.size m (datF (l.take k)) HM2.out (by omega) x.d HOX.out (.slice x.sp x.n x.cap) rfl rfl rfl ?_; intro w3 HM3 HG3))
        have HM4 := Lib.hid (HM3.out.congr HFN.out)
        have HB3 := Lib.hid (HB.out.trans (HW2.out.mono HB.out.size))
        have HB4 := Lib.hid (show Below w.heap.size w w3 from HB3.out.trans ((Below.refl w.heap.size w2).grown HG3.out HB3.out.size (fun k hk => by injection hk with hk; omega)))
        go_roundw
        case rel => exact ⟨k + 1, m + 1, by go_num, by omega, by omega, HM4.out, HB4.out⟩
        case measure => simp [intOf]; omega
    · obtain rfl : k = n := by omega
      have hd : decide ((k : Int) < (k : Int)) = false := by simp
      have HTK : Hid (l.take k = l) := List.take_of_length_le (by rw [HL.out.len]; exact Nat.le_refl _)
      have HM3 := Lib.hid (show MapIn wr w.heap.size m (datF l) by have := HM.out; rwa [HTK.out] at this)
      go_wp2_with fail
      go_ret
      exact ⟨w.heap.size, m, rfl, HM3.out, hmk, Nat.le_refl _, HB.out⟩
end Go.Proofs.YtdjknefbaclleaaGreatDoor

namespace Go.Proofs
open Go.Shelf
def Tryz.sortDg_ren : Go.Shelf.Ren := ⟨fun | 6 => 26 | 15 => 46 | 14 => 45 | 28 => 71 | 29 => 72 | 20 => 63 | 21 => 64 | 22 => 65 | 23 => 66 | 24 => 67 | 25 => 68 | 26 => 69 | 27 => 70 | 46 => 91 | 47 => 92 | 48 => 93 | 49 => 94 | 50 => 95 | 57 => 110 | n => n, fun | 22 => 25 | 24 => 29 | 25 => 53 | 3 => 3 | 39 => 72 | 0 => 0 | 53 => 85 | 55 => 65 | 4 => 4 | 46 => 102 | 45 => 101 | 50 => 51 | 5 => 5 | 9 => 9 | 66 => 124 | 70 => 128 | 76 => 146 | 77 => 147 | n => n, fun | n => n⟩
theorem Tryz.sortDg : Go.Proofs.SlLaysF0.n6 Tryz.prog Tryz.sortDg_ren := {
  mixed := by kernel_rfl
  f6 := ⟨Tryz.f26.name, by decide, Tryz.func26.trans (congrArg some (by kernel_rfl))⟩
  f14 := ⟨Tryz.f45.name, by decide, Tryz.func45.trans (congrArg some (by kernel_rfl))⟩
  f15 := Tryz.func46.trans (congrArg some (by kernel_rfl))
  f20 := ⟨Tryz.f63.name, by decide, Tryz.func63.trans (congrArg some (by kernel_rfl))⟩
  f21 := ⟨Tryz.f64.name, by decide, Tryz.func64.trans (congrArg some (by kernel_rfl))⟩
  f22 := ⟨Tryz.f65.name, by decide, Tryz.func65.trans (congrArg some (by kernel_rfl))⟩
  f23 := ⟨Tryz.f66.name, by decide, Tryz.func66.trans (congrArg some (by kernel_rfl))⟩
  f24 := ⟨Tryz.f67.name, by decide, Tryz.func67.trans (congrArg some (by kernel_rfl))⟩
  f25 := ⟨Tryz.f68.name, by decide, Tryz.func68.trans (congrArg some (by kernel_rfl))⟩
  f26 := ⟨Tryz.f69.name, by decide, Tryz.func69.trans (congrArg some (by kernel_rfl))⟩
  f27 := ⟨Tryz.f70.name, by decide, Tryz.func70.trans (congrArg some (by kernel_rfl))⟩
  f28 := Tryz.func71.trans (congrArg some (by kernel_rfl))
  f29 := Tryz.func72.trans (congrArg some (by kernel_rfl))
  f46 := ⟨Tryz.f91.name, by decide, Tryz.func91.trans (congrArg some (by kernel_rfl))⟩
  f47 := Tryz.func92.trans (congrArg some (by kernel_rfl))
  f48 := Tryz.func93.trans (congrArg some (by kernel_rfl))
  f49 := ⟨Tryz.f94.name, by decide, Tryz.func94.trans (congrArg some (by kernel_rfl))⟩
  f50 := ⟨Tryz.f95.name, by decide, Tryz.func95.trans (congrArg some (by kernel_rfl))⟩
  f57 := ⟨Tryz.f110.name, by decide, Tryz.func110.trans (congrArg some (by kernel_rfl))⟩
  t0 := Tryz.underlying0
  a0 := Tryz.isAgg0
  z0 := Tryz.sizeOf0
  v0 := Tryz.zeroValue0
  t3 := Tryz.underlying3
  a3 := Tryz.isAgg3
  z3 := Tryz.sizeOf3
  v3 := Tryz.zeroValue3
  t4 := Tryz.underlying4
  a4 := Tryz.isAgg4
  z4 := Tryz.sizeOf4
  v4 := Tryz.zeroValue4
  t5 := Tryz.underlying5
  a5 := Tryz.isAgg5
  z5 := Tryz.sizeOf5
  v5 := Tryz.zeroValue5
  t9 := Tryz.underlying9
  a9 := Tryz.isAgg9
  z9 := Tryz.sizeOf9
  v9 := Tryz.zeroValue9
  t22 := Tryz.underlying25
  a22 := Tryz.isAgg25
  z22 := Tryz.sizeOf25
  v22 := Tryz.zeroValue25
  t25 := Tryz.underlying53
  a25 := Tryz.isAgg53
  z25 := Tryz.sizeOf53
  v25 := Tryz.zeroValue53
  t39 := Tryz.underlying72
  a39 := Tryz.isAgg72
  z39 := Tryz.sizeOf72
  v39 := Tryz.zeroValue72
  t45 := Tryz.underlying101
  a45 := Tryz.isAgg101
  z45 := Tryz.sizeOf101
  v45 := Tryz.zeroValue101
  t46 := Tryz.underlying102
  a46 := Tryz.isAgg102
  z46 := Tryz.sizeOf102
  v46 := Tryz.zeroValue102
  t50 := Tryz.underlying51
  a50 := Tryz.isAgg51
  z50 := Tryz.sizeOf51
  v50 := Tryz.zeroValue51
  t53 := Tryz.underlying85
  a53 := Tryz.isAgg85
  z53 := Tryz.sizeOf85
  v53 := Tryz.zeroValue85
  t55 := Tryz.underlying65
  a55 := Tryz.isAgg65
  z55 := Tryz.sizeOf65
  v55 := Tryz.zeroValue65
  t66 := Tryz.underlying124
  a66 := Tryz.isAgg124
  z66 := Tryz.sizeOf124
  v66 := Tryz.zeroValue124
  t70 := Tryz.underlying128
  a70 := Tryz.isAgg128
  z70 := Tryz.sizeOf128
  v70 := Tryz.zeroValue128
  t76 := Tryz.underlying146
  a76 := Tryz.isAgg146
  z76 := Tryz.sizeOf146
  v76 := Tryz.zeroValue146
  t77 := Tryz.underlying147
  a77 := Tryz.isAgg147
  z77 := Tryz.sizeOf147
  v77 := Tryz.zeroValue147 }
end Go.Proofs

namespace Go.Proofs.YtdjknefbaclleaaGreatDoor
open Go.RowKit Go.Sort

abbrev ODg := {d : List Int // D32 d}
instance : Inhabited ODg := ⟨⟨zed, D32.zed⟩⟩
def encD (x : ODg) : List Value := x.1.map (Value.int .u8)
theorem encD_len (x : ODg) : (encD x).length = 32 := by unfold encD; rw [List.length_map]; exact x.2.1
def cDg (x y : ODg) : Int := cmpD x.1 y.1
theorem ltDg (x y : ODg) : ltOf cDg x y = dls x.1 y.1 := cmpBy_lt _ _ (fun z hz => x.2.2 z hz) (fun z hz => y.2.2 z hz)
theorem cDg_swo : SWO (ltOf cDg) where
  irrefl x := by rw [ltDg]; exact dls_irrefl _
  trans x y z h1 h2 := by rw [ltDg] at *; exact dls_trans h1 h2
  ntrans x y z h1 h2 := by
    rw [ltDg] at *
    cases h3 : dls x.1 z.1
    · rfl
    · cases h4 : dls y.1 x.1
      · have e := dls_tri h1 h4
        rw [e, h2] at h3; cases h3
      · have := dls_trans h4 h3
        rw [h2] at this; cases this
def unD (l : List ODg) : List (List Int) := l.map (·.1)
def toD (l : List (List Int)) (h : ∀ x ∈ l, D32 x) : List ODg := l.pmap (fun x hx => ⟨x, hx⟩) h
theorem toD_length (l : List (List Int)) (h : ∀ x ∈ l, D32 x) : (toD l h).length = l.length := by simp [toD]
theorem unD_length (l : List ODg) : (unD l).length = l.length := by simp [unD]
theorem unD_toD (l : List (List Int)) (h : ∀ x ∈ l, D32 x) : unD (toD l h) = l := by
  unfold unD toD
  rw [List.map_pmap]
  exact (List.pmap_eq_map ..).trans (List.map_id' l)
theorem unD_ok (l : List ODg) : ∀ x ∈ unD l, D32 x := fun x hx => by
  obtain ⟨y, _, rfl⟩ := List.mem_map.1 hx; exact y.2
theorem getDg (d : Array ODg) (i : Nat) (hi : i < d.size) : (unD d.toList)[i]? = some d[i]!.1 := by
  unfold unD
  rw [List.getElem?_map, Array.getElem?_toList, Array.getElem?_eq_getElem hi, getElem!_pos d i hi]; rfl
theorem holdsDg {w : World} {g n cap : Nat} {t : TypeId} {cur : Array Value} {d : Array ODg} (h : DigsIn w w.heap.size (some ⟨g, 0, none⟩) n cap (unD d.toList)) (hb : w.heap[g]? = some (.cells cur t (0, 0))) : Sort.HoldsK encD 32 w g 0 d := by
  intro t ht
  rw [Sort.size_flatK] at ht
  refine ⟨?_, by simp [World.frozen?, hb]⟩
  rw [Sort.get_flatK _ _ _ _ ht]
  have hi : t / 32 < d.size := by omega
  have hx := getDg d (t / 32) hi
  obtain ⟨b, off, e, hlt, hc, hr⟩ := h.at (by have := h.len; rw [unD_length] at this; simp at this; omega)
  injection e with e; injection e with e1 e2; subst e1 e2
  have h32 : (encD d[t / 32]!).length = 32 := encD_len _
  have hj : t % 32 < (d[t / 32]!.1.map (Value.int .u8)).length := by have : (d[t / 32]!.1.map (Value.int .u8)).length = 32 := h32; omega
  have := hr (t / 32) _ hx (t % 32) _ (List.getElem?_eq_getElem hj)
  have e3 : 0 + t / 32 * 32 + t % 32 = 0 + t := by omega
  have this' : w.cell? ⟨g, 0 + t / 32 * 32 + t % 32, none⟩ = some ((d[t / 32]!.1.map (Value.int .u8))[t % 32]) := this
  rw [e3] at this'
  rw [this']
  exact congrArg some (getElem!_pos (d[t / 32]!.1.map (Value.int .u8)) (t % 32) hj).symm
theorem digsDg {w : World} {g n cap : Nat} {d : Array ODg} (h : Sort.HoldsK encD 32 w g 0 d) (hn : d.size = n) (hc : n ≤ cap) (hg : g < w.heap.size) : DigsIn w w.heap.size (some ⟨g, 0, none⟩) n cap (unD d.toList) := by
  refine DigsIn.mk' (by rw [unD_length]; simpa using hn) (unD_ok _) fun _ => ⟨g, 0, rfl, hg, hc, ?_⟩
  intro i x hx j v hv
  have hi : i < d.size := by have := (List.getElem?_eq_some_iff.1 hx).1; rw [unD_length] at this; simpa using this
  have e : x = d[i]!.1 := Option.some.inj (hx.symm.trans (getDg d i hi))
  subst e
  obtain ⟨hj, hv⟩ := List.getElem?_eq_some_iff.1 hv
  have h32 : (d[i]!.1.map (Value.int .u8)).length = 32 := encD_len d[i]!
  have := (Sort.HoldsK.cell h hi (show j < 32 by omega)).1
  show w.cell? ⟨g, 0 + i * 32 + j, none⟩ = some v
  rw [this, ← hv]
  exact congrArg some (getElem!_pos (d[i]!.1.map (Value.int .u8)) j hj)
theorem ascDg {d : Array ODg} (h : Sort.SortedIn (ltOf cDg) 0 d.size d) : (unD d.toList).Pairwise (fun x y => dls y x = false) := by
  rw [List.pairwise_iff_getElem]
  intro i j hi hj hij
  rw [unD_length] at hi hj
  have hi' : i < d.size := by simpa using hi
  have hj' : j < d.size := by simpa using hj
  have := h i j (Nat.zero_le _) hij hj'
  rw [ltDg] at this
  have e1 := getDg d i hi'; have e2 := getDg d j hj'
  rw [List.getElem?_eq_getElem (by rw [unD_length]; exact hi)] at e1
  rw [List.getElem?_eq_getElem (by rw [unD_length]; exact hj)] at e2
  rw [Option.some.inj e1, Option.some.inj e2]
  exact this
theorem permDg {d d' : Array ODg} (h : Sort.PermIn 0 d.size d d') : (unD d'.toList).Perm (unD d.toList) := by
  obtain ⟨hs, _, hp⟩ := h
  rw [← hs] at hp
  have e1 : d'.extract 0 d'.size = d' := by simp
  rw [e1, hs] at hp
  have e2 : d.extract 0 d.size = d := by simp
  rw [e2] at hp
  exact hp.map _
theorem below_sortDg {base g m : Nat} {w : World} {d : Array ODg} {os : Array Obj} (hg : base ≤ g) (hgw : g < w.heap.size) : Below base w (sortWorldK encD 32 w g 0 m d os) := by
  unfold sortWorldK Sort.putRowK
  refine ⟨rfl, rfl, rfl, by simp, fun k hk => ?_⟩
  by_cases hkw : k < w.heap.size
  · rw [Sort.heap_grow_old _ _ (by simpa using hkw)]
    have : g ≠ k := by omega
    simp [Sort.putRow, Sort.mapBlock, Sort.ahead, Array.getElem?_modify, this]
  · exact absurd hk (by omega)
theorem grown_sortDg {g m : Nat} {w : World} {d : Array ODg} {os : Array Obj} (hgw : g < w.heap.size) : w.grownBy (sortWorldK encD 32 w g 0 m d os) (some g) := by
  unfold sortWorldK Sort.putRowK
  refine ⟨rfl, rfl, rfl, by simp, fun k hk hne => ?_⟩
  rw [Sort.heap_grow_old _ _ (by simpa using hk)]
  have : g ≠ k := fun e => hne (by rw [e])
  simp [Sort.putRow, Sort.mapBlock, Sort.ahead, Array.getElem?_modify, this]
theorem own_blockDg {w : World} {base n cap : Nat} {sp : Option Addr} {l : List (List Int)} (h : OwnDg w base (.slice sp n cap) l) (hn : l.length = n) (h0 : 0 < n) : ∃ g cur, sp = some ⟨g, 0, none⟩ ∧ base ≤ g ∧ g < w.heap.size ∧ n ≤ cap ∧ w.heap[g]? = some (.cells cur 29 (0, 0)) := by
  obtain ⟨_, ⟨e, e0⟩ | ⟨g, cap', cur, e, hb, hg, hle, _⟩⟩ := h.1
  · omega
  · injection e with e1 e2 e3
    exact ⟨g, cur, e1, hb, (Array.getElem?_eq_some_iff.1 hg).1, by omega, hg⟩
theorem compare_enters : ∀ args w, (callFunc 17 args).run Tryz.prog w = .ok (.enter 17 args) w := enters_of Tryz.func17 (by kernel_rfl) rfl
theorem sortD_any (base n cap : Nat) (sp : Option Addr) (l : List (List Int)) (w : World) (h : OwnDg w base (.slice sp n cap) l) (hn : l.length = n) (hbd : n ≤ 100000000) :
    Calls Tryz.prog 26 #[.slice sp n cap, .func (.func 17) #[] #[]] w fun e w' => e = .returned (.tuple #[]) ∧ ∃ m, m.Pairwise (fun x y => dls y x = false) ∧ m.Perm l ∧ DigsIn w' w'.heap.size sp n cap m ∧ w.grownBy w' (Value.slice sp n cap).ownBlock ∧ Below base w w' := by
  by_cases h0 : 0 < n
  · obtain ⟨g, cur, rfl, hb, hgw, hc, hg⟩ := own_blockDg h hn h0
    have hens := h.digs hn
    have hd : (toD l h.2).toArray.size = n := by simp [toD_length, hn]
    have hul : unD (toD l h.2).toArray.toList = l := unD_toD l h.2
    have hH : Sort.HoldsK encD 32 w g 0 (toD l h.2).toArray := holdsDg (n := n) (cap := cap) (by rw [hul]; exact hens) hg
    have hcon := AnyQ.slices_SortFunc Tryz.sortDg 32 Tryz.isAgg29 Tryz.sizeOf29 encD encD_len (fun x v hv => one_map _ _ v hv) cDg cDg_swo 17 #[] g 0 cap (toD l h.2).toArray w compare_enters (fun m os dk hdk x y => compareG_any x.1 y.1 _ x.2 y.2) hH hgw (by omega)
    change Calls Tryz.prog 26 _ _ _ at hcon
    rw [hd] at hcon
    refine hcon.mono ?_
    rintro e w' ⟨he, d', m, os, hp, hs, rfl⟩
    have hds : d'.size = n := by rw [hp.1, hd]
    have hs' : Sort.SortedIn (ltOf cDg) 0 d'.size d' := by rw [hds]; exact hs
    have hp' : Sort.PermIn 0 (toD l h.2).toArray.size (toD l h.2).toArray d' := by rw [hd]; exact hp
    have hperm := permDg hp'
    rw [hul] at hperm
    refine ⟨he, unD d'.toList, ascDg hs', hperm, ?_, grown_sortDg hgw, below_sortDg hb hgw⟩
    have hsz := size_sortWorldK_c encD 32 w g 0 m d' os
    exact digsDg (holdsK_sortWorldK_c encD 32 w g 0 (toD l h.2).toArray d' m os hH hgw (by rw [hds, hd])) hds hc (by omega)
  · obtain rfl : n = 0 := by omega
    have hl : l = [] := List.eq_nil_of_length_eq_zero hn
    subst hl
    have hcon := AnyF.slices_SortFunc_none Tryz.sortDg sp cap (.func (.func 17) #[] #[]) w
    change Calls Tryz.prog 26 _ _ _ at hcon
    refine hcon.mono ?_
    rintro e w' ⟨he, rfl⟩
    exact ⟨he, [], List.Pairwise.nil, List.Perm.refl _, h.digs rfl, World.grownBy.refl _ _, Below.refl _ _⟩
end Go.Proofs.YtdjknefbaclleaaGreatDoor

namespace Go.Proofs.YtdjknefbaclleaaGreatDoor
open Go.RowKit Go.Sort

theorem build0D (w : World) : (Instr.buildSlice 25 0 #[]).run Tryz.prog w = .ok (.slice (some ⟨w.heap.size, 0, none⟩) 0 0) (w.alloc (.cells #[] 29)) := by kernel_rfl
theorem own0D (w : World) : OwnDg (w.alloc (.cells #[] 29)) w.heap.size (.slice (some ⟨w.heap.size, 0, none⟩) 0 0) [] :=
  ⟨World.ownsRow_made (base := w.heap.size) (e := 29) (size := 32) w #[] 0 (Nat.le_refl _) (by unfold maxLen; omega) rfl, fun x h => (by cases h)⟩
set_option maxRecDepth 100000 in
set_option maxHeartbeats 1000000 in
theorem cloneD_any (rp : Option Addr) (rn rc : Nat) (R : List (List Int)) (w : World) (hR : DigsIn w w.heap.size rp rn rc R) (hnil : rp = none → rc = 0) (hrn : rn ≤ 80000000) :
    Calls Tryz.prog 24 #[.slice rp rn rc] w fun e w' => ∃ sp c, e = .returned (.slice sp rn c) ∧ OwnDg w' w.heap.size (.slice sp rn c) R ∧ Below w.heap.size w w' := by
  cases rp with
  | none =>
    have h0 : rn = 0 := by
      rcases Nat.eq_zero_or_pos rn with h | h
      · exact h
      · obtain ⟨_, _, e, _⟩ := hR.cells h; cases e
    subst h0
    have hR0 : R = [] := List.eq_nil_of_length_eq_zero hR.len
    subst hR0
    have hc0 := hnil rfl
    subst hc0
    have heq : ∀ W, (binOp .eql 25 (.slice none 0 0) (.slice none 0 0)).run Tryz.prog W = .ok (.bool true) W := fun W => by kernel_rfl
    clear hR hnil
    go_enter Tryz.func24, Tryz.ntmps24
    go_wp2_with fail
    go_ret
    exact ⟨none, 0, rfl, OwnDg.nil _ _, Below.refl _ _⟩
  | some ad =>
    have HR := Lib.hid hR; clear hR hnil
    have heq : ∀ W, (binOp .eql 25 (.slice (some ad) rn rc) (.slice none 0 0)).run Tryz.prog W = .ok (.bool false) W := fun W => by kernel_rfl
    have HO0 := Lib.hid (own0D w)
    go_enter Tryz.func24, Tryz.ntmps24
    go_wp2_with (first
      | (refine wpList_build0 rfl 25 29 rfl build0D ?_; intro v3 w3 hv3 hw3; have HO3 := (by rw [hv3.out, hw3.out]; exact HO0 : Hid (OwnDg w3 w.heap.size v3 [])); have HB3 := (by rw [hw3.out]; exact Lib.hid ((Below.refl w.heap.size w).alloc (Nat.le_refl _) _) : Hid (Below w.heap.size w w3)); clear hv3 hw3)
      | (at_builtin; refine wpList_append_dgs_at rfl (.tmp 5) (.tmp 6) rfl w.heap.size _ [] 0 rfl rfl HO3.out (some ad) rn rc w.heap.size R rfl (HR.out.below HB3.out (Nat.le_refl _)) (fun h => by cases h) (by omega) HB3.out.size ?_; intro sp4 c4 w4 HO4 HB4 HG4 HW4))
    have HB5 := Lib.hid (HB3.out.trans HB4.out)
    have HO5 : Hid (OwnDg w4 w.heap.size (.slice sp4 rn c4) R) := by have := HO4.out; rw [Nat.zero_add] at this; exact this
    go_ret
    exact ⟨sp4, c4, rfl, HO5.out, HB5.out⟩
theorem own_popD {w : World} {base n cap : Nat} {sp : Option Addr} {W : List (List Int)} {d : List Int} (h : OwnDg w base (.slice sp (n + 1) cap) (W ++ [d])) (hn : W.length = n) : OwnDg w base (.slice sp n cap) W := by
  obtain ⟨hl, ⟨e, e0⟩ | ⟨g, c, cur, e, hb, hg, hle, hcm, hsz, htk⟩⟩ := h.1
  · cases e
  · injection e with e1 e2 e3
    subst e1 e3
    refine ⟨⟨?_, .inr ⟨g, cap, cur, by rw [hn], hb, hg, by rw [hn]; rw [List.length_append] at hle; simp at hle; omega, hcm, hsz, ?_⟩⟩, fun x hx => h.2 x (List.mem_append.2 (.inl hx))⟩
    · have hx : ∀ l : List (List Int), (∀ x ∈ l, D32 x) → (rowsDg l).length = l.length * 32 := fun l hl => by
        induction l with
        | nil => rfl
        | cons x l ih => unfold rowsDg at ih ⊢; rw [List.flatMap_cons, List.length_append, ih (fun y hy => hl y (by simp [hy])), List.length_map, (hl x (by simp)).1, List.length_cons]; omega
      exact hx W (fun x hx => h.2 x (List.mem_append.2 (.inl hx)))
    · have hx : ∀ l : List (List Int), (∀ x ∈ l, D32 x) → (rowsDg l).length = l.length * 32 := fun l hl => by
        induction l with
        | nil => rfl
        | cons x l ih => unfold rowsDg at ih ⊢; rw [List.flatMap_cons, List.length_append, ih (fun y hy => hl y (by simp [hy])), List.length_map, (hl x (by simp)).1, List.length_cons]; omega
      have hW := hx W (fun x hx => h.2 x (List.mem_append.2 (.inl hx)))
      have h1 : (cur.toList.take ((W ++ [d]).length * 32)).take (W.length * 32) = rowsDg W := by
        rw [htk, rowsDg_append, ← hW, List.take_left]
      rw [List.take_take] at h1
      rw [← h1]
      congr 1
      rw [List.length_append]; simp
/-- two lists that grow lie apart -/
def ApO (v1 v2 : Value) : Prop := ∀ g, v1.ownBlock = some g → v2.ownBlock ≠ some g
theorem ApO.symm {v1 v2 : Value} (h : ApO v1 v2) : ApO v2 v1 := fun g h1 h2 => h g h2 h1
theorem ApO.kept {v1 v2 : Value} {w w' : World} {base : Nat} {l : List (List Int)} (h : ApO v1 v2) (ho : OwnDg w base v2 l) (hg : w.grownBy w' v1.ownBlock) : OwnDg w' base v2 l :=
  ⟨ho.1.kept hg (by
    cases hv : v2.ownBlock with
    | none => exact .inl rfl
    | some g => exact .inr (fun e => h g e.symm hv)), ho.2⟩
theorem ApO.grow {v1 v1' v2 : Value} {w : World} {base : Nat} {l : List (List Int)} (h : ApO v1 v2) (ho : OwnDg w base v2 l) (hv : v1'.ownBlock = v1.ownBlock ∨ v1'.ownBlock = some w.heap.size) : ApO v1' v2 := fun g h1 h2 => by
  rcases hv with hv | hv
  · rw [hv] at h1; exact h g h1 h2
  · rw [hv] at h1; injection h1 with h1
    have := (ho.1.lt g h2).2
    omega
theorem apO_nil (v : Value) : ApO v (.slice none 0 0) := fun g _ h => by cases h
theorem apO_nil' (v : Value) : ApO (.slice none 0 0) v := fun g h _ => by cases h
theorem apO_len {sp : Option Addr} {n n' c : Nat} {v : Value} (h : ApO (.slice sp n c) v) : ApO (.slice sp n' c) v := fun g h1 h2 => h g (by
  cases sp with
  | none => cases h1
  | some a => exact h1) h2
theorem apO_len' {sp : Option Addr} {n n' c : Nat} {v : Value} (h : ApO v (.slice sp n c)) : ApO v (.slice sp n' c) := (apO_len h.symm).symm
theorem map_apart {w : World} {base b n : Nat} {f : List Int → Option Value} {v : Value} {l : List (List Int)} (h : MapIn w b n f) (ho : OwnDg w base v l) : some b ≠ v.ownBlock := fun e => by
  obtain ⟨D, ⟨es, clock, hb, _⟩, _⟩ := h
  obtain ⟨_, ⟨e1, _⟩ | ⟨g, c, cur, e1, _, hg, _⟩⟩ := ho.1
  · rw [e1] at e; cases e
  · rw [e1] at e
    have : b = g := by simpa [Value.ownBlock] using e
    rw [this, hg] at hb; cases hb
theorem seen_apart {w : World} {base b n : Nat} {f : List Int → Bool} {v : Value} {l : List (List Int)} (h : SeenIn w b n f) (ho : OwnDg w base v l) : some b ≠ v.ownBlock := fun e => by
  obtain ⟨D, ⟨es, clock, hb, _⟩, _⟩ := h
  obtain ⟨_, ⟨e1, _⟩ | ⟨g, c, cur, e1, _, hg, _⟩⟩ := ho.1
  · rw [e1] at e; cases e
  · rw [e1] at e
    have : b = g := by simpa [Value.ownBlock] using e
    rw [this, hg] at hb; cases hb
/-- what the search keeps in memory -/
structure ClS (w : World) (base : Nat) (v4 v5 v8 : Value) (P M W : List (List Int)) (mb mn sb sn : Nat) (F : List Int → Option Value) (f : List Int → Bool) : Prop where
  p : OwnDg w base v4 P
  m : OwnDg w base v5 M
  q : OwnDg w base v8 W
  pm : ApO v4 v5
  pw : ApO v4 v8
  mw : ApO v5 v8
  mp : MapIn w mb mn F
  sn : SeenIn w sb sn f
  ms : mb ≠ sb
  lo : base ≤ sb
theorem ClS.below {w w' : World} {base mb mn sb sn : Nat} {v4 v5 v8 : Value} {P M W : List (List Int)} {F : List Int → Option Value} {f : List Int → Bool} (h : ClS w base v4 v5 v8 P M W mb mn sb sn F f) (hb : Below w.heap.size w w') : ClS w' base v4 v5 v8 P M W mb mn sb sn F f :=
  ⟨h.p.below hb, h.m.below hb, h.q.below hb, h.pm, h.pw, h.mw, h.mp.below hb, h.sn.below hb, h.ms, h.lo⟩
theorem ClS.gp {w w' : World} {base mb mn sb sn : Nat} {v4 v4' v5 v8 : Value} {P P' M W : List (List Int)} {F : List Int → Option Value} {f : List Int → Bool} (h : ClS w base v4 v5 v8 P M W mb mn sb sn F f) (hg : w.grownBy w' v4.ownBlock) (ho : OwnDg w' base v4' P') (hv : v4'.ownBlock = v4.ownBlock ∨ v4'.ownBlock = some w.heap.size) : ClS w' base v4' v5 v8 P' M W mb mn sb sn F f :=
  ⟨ho, h.pm.kept h.m hg, h.pw.kept h.q hg, h.pm.grow h.m hv, h.pw.grow h.q hv, h.mw, h.mp.grown hg (map_apart h.mp h.p), h.sn.grown hg (seen_apart h.sn h.p), h.ms, h.lo⟩
theorem ClS.gm {w w' : World} {base mb mn sb sn : Nat} {v4 v5 v5' v8 : Value} {P M M' W : List (List Int)} {F : List Int → Option Value} {f : List Int → Bool} (h : ClS w base v4 v5 v8 P M W mb mn sb sn F f) (hg : w.grownBy w' v5.ownBlock) (ho : OwnDg w' base v5' M') (hv : v5'.ownBlock = v5.ownBlock ∨ v5'.ownBlock = some w.heap.size) : ClS w' base v4 v5' v8 P M' W mb mn sb sn F f :=
  ⟨h.pm.symm.kept h.p hg, ho, h.mw.kept h.q hg, (h.pm.symm.grow h.p hv).symm, h.pw, h.mw.grow h.q hv, h.mp.grown hg (map_apart h.mp h.m), h.sn.grown hg (seen_apart h.sn h.m), h.ms, h.lo⟩
theorem ClS.gw {w w' : World} {base mb mn sb sn : Nat} {v4 v5 v8 v8' : Value} {P M W W' : List (List Int)} {F : List Int → Option Value} {f : List Int → Bool} (h : ClS w base v4 v5 v8 P M W mb mn sb sn F f) (hg : w.grownBy w' v8.ownBlock) (ho : OwnDg w' base v8' W') (hv : v8'.ownBlock = v8.ownBlock ∨ v8'.ownBlock = some w.heap.size) : ClS w' base v4 v5 v8' P M W' mb mn sb sn F f :=
  ⟨h.pw.symm.kept h.p hg, h.mw.symm.kept h.m hg, ho, h.pm, (h.pw.symm.grow h.p hv).symm, (h.mw.symm.grow h.m hv).symm, h.mp.grown hg (map_apart h.mp h.q), h.sn.grown hg (seen_apart h.sn h.q), h.ms, h.lo⟩
theorem ClS.gs {w w' : World} {base mb mn sb sn sn' : Nat} {v4 v5 v8 : Value} {P M W : List (List Int)} {F : List Int → Option Value} {f f' : List Int → Bool} (h : ClS w base v4 v5 v8 P M W mb mn sb sn F f) (hg : w.grownBy w' (some sb)) (hs : SeenIn w' sb sn' f') : ClS w' base v4 v5 v8 P M W mb mn sb sn' F f' :=
  ⟨⟨h.p.1.kept hg (.inr (fun e => seen_apart h.sn h.p e.symm)), h.p.2⟩, ⟨h.m.1.kept hg (.inr (fun e => seen_apart h.sn h.m e.symm)), h.m.2⟩, ⟨h.q.1.kept hg (.inr (fun e => seen_apart h.sn h.q e.symm)), h.q.2⟩, h.pm, h.pw, h.mw, h.mp.grown hg (fun (e : some mb = some sb) => h.ms (Option.some.inj e)), hs, h.ms, h.lo⟩
theorem ClS.pop {w : World} {base mb mn sb sn n c : Nat} {sp : Option Addr} {v4 v5 : Value} {P M W : List (List Int)} {d : List Int} {F : List Int → Option Value} {f : List Int → Bool} (h : ClS w base v4 v5 (.slice sp (n + 1) c) P M (W ++ [d]) mb mn sb sn F f) (hn : W.length = n) : ClS w base v4 v5 (.slice sp n c) P M W mb mn sb sn F f :=
  ⟨h.p, h.m, own_popD h.q hn, h.pm, apO_len' h.pw, apO_len' h.mw, h.mp, h.sn, h.ms, h.lo⟩
def seenP (P M : List (List Int)) (d : List Int) : Bool := decide (d = zed) || decide (d ∈ P) || decide (d ∈ M)
theorem SeenIn.congr {w : World} {b n : Nat} {f g : List Int → Bool} (h : SeenIn w b n f) (hfg : ∀ d, f d = g d) : SeenIn w b n g := by
  have : f = g := funext hfg
  rw [← this]; exact h
theorem snoc_of {W : List (List Int)} {n : Nat} (h : W.length = n + 1) : ∃ V d, W = V ++ [d] ∧ V.length = n := by
  rcases List.eq_nil_or_concat W with rfl | ⟨V, d, rfl⟩
  · simp at h
  · rw [List.concat_eq_append] at h ⊢; exact ⟨V, d, rfl, by simpa using h⟩
theorem srt_of : ∀ {m : List (List Int)}, m.Pairwise (fun x y => dls y x = false) → m.Nodup → srtD (m.map pr0)
  | [], _, _ => List.Pairwise.nil
  | x :: m, h, hn => by
    obtain ⟨h1, h2⟩ := List.pairwise_cons.1 h
    obtain ⟨n1, n2⟩ := List.nodup_cons.1 hn
    rw [List.map_cons]
    refine List.pairwise_cons.2 ⟨fun y hy => ?_, srt_of h2 n2⟩
    obtain ⟨z, hz, rfl⟩ := List.mem_map.1 hy
    show dls x z = true
    rw [← Bool.not_eq_false]
    intro hc
    exact n1 (by rw [dls_tri hc (h1 z hz)]; exact hz)
theorem dv_rowC (w : World) (d : List Int) : (w.alloc (.cells (dv d) 29)).rangeAt w.heap.size 0 (d.map (Value.int .u8)) := range_row (pre := []) (post := []) (heap_alloc_new w _) (by simp [dv]) rfl
theorem run_toD (w : World) (b off : Nat) (n cap k : Nat) (hk : k ≤ n) (hn : n ≤ cap) :
    (Instr.slice 25 (.slice (some ⟨b, off, none⟩) n cap) none (some (.int .i64 k)) none).run Tryz.prog w = .ok (.slice (some ⟨b, off, none⟩) k cap) w := by
  have h1 : (0 : Int) ≤ (k : Int) ∧ (k : Int) ≤ (cap : Int) := ⟨by omega, by omega⟩
  have h2 : k ≤ cap := by omega
  simp [Instr.slice, Instr.sliceBounds, Instr.sliceBound, asIntOf, run_underlying Tryz.underlying25, sizeDg, h2, Addr.add_mid]
theorem own_cap {w : World} {base n cap : Nat} {sp : Option Addr} {l : List (List Int)} (h : OwnDg w base (.slice sp n cap) l) : n ≤ cap := by
  obtain ⟨_, ⟨e, _⟩ | ⟨g, c, u, e, _, _, hle, _⟩⟩ := h.1
  · injection e with _ e2 e3; omega
  · injection e with _ e2 e3; omega
theorem apD_of {v : Value} {sp : Option Addr} {n c : Nat} (h : ApO (.slice sp n c) v) : ApD v sp := fun g b off h1 h2 e => by
  subst h2
  exact h b (by simp [Value.ownBlock]) (by rw [e]; exact h1)
/-- what Closure answers, with how much it is -/
def ClRb (l : List Bl) (R : List (List Int)) (e : Ending) (w' : World) : Prop := ∃ gp np cp gm nm cm P M, e = .returned (.tuple #[.slice gp np cp, .slice gm nm cm]) ∧ CloD l R P M ∧ DigsIn w' w'.heap.size gp np cp P ∧ DigsIn w' w'.heap.size gm nm cm M ∧ (gp = none → cp = 0) ∧ (gm = none → cm = 0) ∧ np ≤ 80000000 ∧ nm ≤ 80000000
theorem seenP_m (P M : List (List Int)) (d e : List Int) : (decide (e = d) || seenP P M e) = seenP P (M ++ [d]) e := by
  unfold seenP
  simp only [List.mem_append, List.mem_singleton, Bool.decide_or]
  cases decide (e = d) <;> cases decide (e = zed) <;> cases decide (e ∈ P) <;> cases decide (e ∈ M) <;> rfl
theorem seenP_p (P M : List (List Int)) (d e : List Int) : (decide (e = d) || seenP P M e) = seenP (P ++ [d]) M e := by
  unfold seenP
  simp only [List.mem_append, List.mem_singleton, Bool.decide_or]
  cases decide (e = d) <;> cases decide (e = zed) <;> cases decide (e ∈ P) <;> cases decide (e ∈ M) <;> rfl
set_option maxRecDepth 100000 in
set_option maxHeartbeats 8000000 in
theorem clo_any (sp : Option Addr) (n cap : Nat) (l : List Bl) (rp : Option Addr) (rn rc : Nat) (R : List (List Int)) (w : World) (hl : BlsIn w w.heap.size sp n cap l) (hR : DigsIn w w.heap.size rp rn rc R) (hrnil : rp = none → rc = 0) (hn : n ≤ 1000) (hpot : rn + pot l [] ≤ 80000000) :
    Calls Tryz.prog 8 #[.slice sp n cap, .slice rp rn rc] w fun e w' => ClRb l R e w' ∧ Below w.heap.size w w' := by
  have HL := Lib.hid hl; have HR := Lib.hid hR; have HPOT := Lib.hid hpot; have HRN := Lib.hid hrnil
  have hrn : rn ≤ 80000000 := by omega
  clear hl hR hpot hrnil
  go_enter Tryz.func8, Tryz.ntmps8
  go_wp2_with fail
  refine (dataOf_any sp n cap l w HL.out (by omega)).mono ?_
  rintro e w1 ⟨mb, mn, rfl, hmap, hmn, hmb, b1⟩
  have HM1 := Lib.hid hmap; have HB1 := Lib.hid b1; have HMB := Lib.hid hmb
  clear hmap hmb b1
  have hmk := run_makeMap (P := Tryz.prog) 62 w1
  have HSM := Lib.hid (SeenIn.made w1)
  have HWA := Lib.hid ((Below.refl w1.heap.size w1).alloc (Nat.le_refl _) (.map #[] 0))
  have HSZ := Lib.hid (show w1.heap.size < (w1.alloc (.map #[] 0)).heap.size by simp)
  go_wp2_with (first
    | (refine wpList_build_eqG rfl 29 [] rfl [] rfl _ (buildZ _) ?_; rw [zed_v])
    | (refine wpList_seen0 rfl (.tmp 15) (.tmp 16) (.const (.bool true)) rfl w1.heap.size 0 _ HSM.out (by omega) zed d32_zedC rfl rfl rfl ?_; intro w2 HS2 hg2; have HG2 := Lib.hid hg2; clear hg2))
  clear hmk
  have HMA := Lib.hid (HM1.out.below HWA.out)
  have hb12 : Below w1.heap.size w1 w2 := HWA.out.grown HG2.out (Nat.le_of_lt HSZ.out) (fun k hk => by injection hk with hk; omega)
  have HB2 := Lib.hid (HB1.out.trans (hb12.mono HB1.out.size))
  have HMS : Hid (mb ≠ w1.heap.size) := Nat.ne_of_lt HM1.out.lt
  have HM2 := Lib.hid (HMA.out.grown HG2.out (fun (e : some mb = some w1.heap.size) => HMS.out (Option.some.inj e)))
  have HS2P : Hid (SeenIn w2 w1.heap.size 1 (seenP [] [])) := by show SeenIn _ _ _ _; exact HS2.out.congr (fun d => by simp [seenP])
  have HSB := Lib.hid HB1.out.size
  generalize hsb : w1.heap.size = sb at *
  clear hsb hb12 HWA HSZ HSM HG2 HMA HS2
  refine (cloneD_any rp rn rc R w2 (HR.out.upD HB2.out HB2.out.size) HRN.out hrn).mono ?_
  rintro e w3 ⟨wg, wc, rfl, ho3, b3⟩
  have HW3 := Lib.hid (ho3.base HB2.out.size)
  have HLW := Lib.hid HR.out.len
  have HC3 := Lib.hid (show ClS w3 w.heap.size (.slice none 0 0) (.slice none 0 0) (.slice wg rn wc) [] [] R mb mn sb 1 (datF l) (seenP [] []) from ⟨OwnDg.nil _ _, OwnDg.nil _ _, ho3.base HB2.out.size, apO_nil _, apO_nil' _, apO_nil' _, HM2.out.below b3, HS2P.out.below b3, HMS.out, HSB.out⟩)
  have HB3 := Lib.hid (HB2.out.trans (b3.mono HB2.out.size))
  clear ho3 b3 HM2 HS2P HW3
  go_wp2_with fail
  go_loopg [4, 5, 8] (rn + pot l []) (fun gk v4 v5 v8 wr => ∃ (pm pc mm mc wm wc sn : Nat) (pg mg wg : Option Addr) (P M W : List (List Int)), v4 = .slice pg pm pc ∧ v5 = .slice mg mm mc ∧ v8 = .slice wg wm wc ∧ Hid (ClS wr w.heap.size (.slice pg pm pc) (.slice mg mm mc) (.slice wg wm wc) P M W mb mn sb sn (datF l) (seenP P M) ∧ (P.length = pm ∧ M.length = mm ∧ W.length = wm) ∧ CloI l R W P M ∧ wm + pot l P ≤ gk ∧ sn ≤ pm + mm + 1 ∧ pm + mm + wm + pot l P ≤ 80000000 ∧ Below w.heap.size w wr))
  case atStart => exact ⟨0, 0, 0, 0, rn, wc, 1, none, none, wg, [], [], R, rfl, rfl, rfl, HC3.out, ⟨rfl, rfl, HLW.out⟩, CloI.start l R, Nat.le_refl _, Nat.le_refl _, by have := HPOT.out; omega, HB3.out⟩
  case round =>
    clear HC3 HLW HB3
    obtain ⟨pm, pc, mm, mc, wm, wc, sn, pg, mg, wg, P, M, W, rfl, rfl, rfl, H⟩ := hrel
    have HC := Lib.hid H.out.1; have HLN := Lib.hid H.out.2.1; have HI := Lib.hid H.out.2.2.1; have hgk := H.out.2.2.2.1; have hsn := H.out.2.2.2.2.1; have hbd := H.out.2.2.2.2.2.1; have HB := Lib.hid H.out.2.2.2.2.2.2
    clear H
    rcases Nat.eq_zero_or_pos wm with h0 | hpos
    · subst h0
      have hd : decide (((0 : Nat) : Int) > 0) = false := by simp
      have hd2 : decide ((0 : Int) > 0) = false := by simp
      have hP1 := HLN.out.1; have hM1 := HLN.out.2.1
      have hW0 : W = [] := List.eq_nil_of_length_eq_zero HLN.out.2.2
      subst hW0
      have HI0 := Lib.hid HI.out
      clear HI
      go_wp2_with fail
      refine (sortD_any w.heap.size pm pc pg P wr HC.out.p hP1 (by omega)).mono ?_
      rintro e w4 ⟨rfl, P', hs4, hp4, hdg4, hg4, b4⟩
      have HM4 := Lib.hid (HC.out.pm.kept HC.out.m hg4)
      have HP4 := Lib.hid hdg4; have HS4 := Lib.hid hs4; have HPP := Lib.hid hp4
      have HB4 := Lib.hid (HB.out.trans b4)
      have HAP := Lib.hid (apD_of HC.out.pm)
      have HNP := Lib.hid HC.out.p.nilcap
      clear hs4 hp4 hdg4 hg4 b4
      go_wp2_with fail
      refine (sortD_any w.heap.size mm mc mg M w4 HM4.out hM1 (by omega)).mono ?_
      rintro e w5 ⟨rfl, M', hs5, hp5, hdg5, hg5, b5⟩
      have HB5 := Lib.hid (HB4.out.trans b5)
      have HP5 := Lib.hid (digs_grown HP4.out hg5 HAP.out)
      have HM5 := Lib.hid hdg5
      have HNM := Lib.hid HC.out.m.nilcap
      have HCD := Lib.hid (HI0.out.end_ (fun d => HPP.out.mem_iff) (fun d => hp5.mem_iff) (srt_of HS4.out (HPP.out.nodup_iff.2 HI0.out.np)) (srt_of hs5 (hp5.nodup_iff.2 HI0.out.nm)))
      clear hs5 hp5 hdg5 hg5 b5
      go_wp2_with fail
      go_ret2
      exact ⟨⟨pg, pm, pc, mg, mm, mc, P', M', rfl, HCD.out, HP5.out, HM5.out, HNP.out, HNM.out, by omega, by omega⟩, HB5.out⟩
    · obtain ⟨nw, rfl⟩ : ∃ k, wm = k + 1 := ⟨wm - 1, by omega⟩
      obtain ⟨V, d, hV, hVn⟩ := snoc_of HLN.out.2.2
      subst hV
      have hd : decide (((nw + 1 : Nat) : Int) > 0) = true := by simp
      have hd2 : decide ((nw : Int) + 1 > 0) = true := by first | (simp; done) | (simp; omega)
      have hd3 : decide ((0 : Int) < (nw : Int) + 1) = true := by first | (simp; done) | (simp; omega)
      obtain ⟨d', db, doff, hdk, hd32, hge, hdb, hdc, hdr⟩ := digs_at (HC.out.q.digs HLN.out.2.2) (show nw < nw + 1 by omega)
      have hdd : d' = d := by
        rw [List.getElem?_append_right (by omega), hVn, Nat.sub_self] at hdk
        injection hdk with hdk; exact hdk.symm
      subst hdd
      subst hge
      have HD32 := Lib.hid hd32; have HID := Lib.hid (info_d hd32); have HDR := Lib.hid hdr; have HDB := Lib.hid hdb
      have HDVI := Lib.hid (dv_info d' hd32.1)
      have hsl := fun W => run_toD W db doff (nw + 1) wc nw (by omega) (own_cap HC.out.q)
      have p1 : (0 : Int) ≤ (nw : Int) := by omega
      have p2 : (nw : Int) < (nw : Int) + 1 := by omega
      have p3 : (nw : Int) ≤ 80000000 := by omega
      have HW2 := Lib.hid ((Below.refl wr.heap.size wr).alloc (Nat.le_refl _) (.cells (dv d') 29))
      have HC2 := Lib.hid ((HC.out.below HW2.out).pop hVn)
      have HR2 := Lib.hid (dv_rowC wr d')
      have HS2L := Lib.hid (show wr.heap.size < (wr.alloc (.cells (dv d') 29)).heap.size by simp)
      have HLK := Lib.hid (HC2.out.sn.look d' hd32)
      have HVN := Lib.hid hVn
      clear hd32 hdk hdr hdb hdc
      cases hseen : seenP P M d'
      case true =>
        rw [hseen] at HLK
        have hsk : d' = zed ∨ d' ∈ P ∨ d' ∈ M := by
          unfold seenP at hseen
          simpa [or_assoc] using hseen
        have HI2 := Lib.hid (HI.out.skip hsk)
        clear hseen hsk
        go_wp2_with (first
          | (refine wpList_load_mid rfl 29 _ rfl db (doff + nw * 32) rfl _ _ HDR.out Tryz.underlying29 rfl HID.out ?_)
          | (refine wpList_store_row rfl 29 _ _ rfl wr.heap.size _ rfl rfl 29 _ (heap_alloc_new wr _) HDVI.out (dv_size32 d' HD32.out.1) (dv_one d') ?_; rw [setRow_new, show (List.map (Value.int .u8) d').toArray = dv d' from rfl]; have hlk := HLK.out; generalize hw2 : World.alloc wr _ = w2 at *; clear hw2)
          | (refine wpList_load_mid rfl 29 _ rfl wr.heap.size (0) rfl _ _ HR2.out Tryz.underlying29 rfl HID.out ?_))
        have HB2 := Lib.hid (HB.out.trans (HW2.out.mono HB.out.size))
        have HLN2 := Lib.hid (And.intro HLN.out.1 (And.intro HLN.out.2.1 HVN.out))
        go_roundg (nw + pot l P)
        case measure => omega
        case rel => exact ⟨pm, pc, mm, mc, nw, wc, sn, pg, mg, some ⟨db, doff, none⟩, P, M, V, rfl, rfl, rfl, HC2.out, HLN2.out, HI2.out, Nat.le_refl _, hsn, by omega, HB2.out⟩
      case false =>
        rw [hseen] at HLK
        have hns : d' ≠ zed ∧ d' ∉ P ∧ d' ∉ M := by
          unfold seenP at hseen
          simpa [and_assoc] using hseen
        have HNS := Lib.hid hns
        clear hseen hns
        have HB2 := Lib.hid (HB.out.trans (HW2.out.mono HB.out.size))
        have HSL := Lib.hid HC.out.sn.lt
        cases hf : fnd l d' with
        | none =>
          have HDF : Hid (datF l d' = none) := by show _ = _; unfold datF; rw [hf]; rfl
          have HFN := Lib.hid hf
          have HI2 := Lib.hid (HI.out.lost HNS.out.1 HNS.out.2.1 HNS.out.2.2 hf)
          clear hf
          have HML := Lib.hid HLN.out.2.1.symm
          go_wp2_with (first
            | (refine wpList_load_mid rfl 29 _ rfl db (doff + nw * 32) rfl _ _ HDR.out Tryz.underlying29 rfl HID.out ?_)
            | (refine wpList_store_row rfl 29 _ _ rfl wr.heap.size _ rfl rfl 29 _ (heap_alloc_new wr _) HDVI.out (dv_size32 d' HD32.out.1) (dv_one d') ?_; rw [setRow_new, show (List.map (Value.int .u8) d').toArray = dv d' from rfl]; have hlk := HLK.out; generalize hw2 : World.alloc wr _ = w2 at *; clear hw2)
            | (refine wpList_load_mid rfl 29 _ rfl wr.heap.size (0) rfl _ _ HR2.out Tryz.underlying29 rfl HID.out ?_)
            | (at_mapUpdate; refine wpList_seen rfl (.tmp 36) (.tmp 37) (.const (.bool true)) rfl sb sn _ HC2.out.sn (by omega) d' HD32.out rfl rfl rfl ?_; intro w3 HS3 hg3; have HG3 := Lib.hid hg3; have HR3 := Lib.hid (show w3.rangeAt wr.heap.size 0 (d'.map (Value.int .u8)) from fun j v hv => (World.cell?_of_block (a := ⟨wr.heap.size, 0 + j, none⟩) (hg3.block wr.heap.size HS2L.out (fun e => by injection e with e; have := HSL.out; omega))).trans (HR2.out j v hv)); have HC3 := Lib.hid (HC2.out.gs hg3 HS3.out); have hlk2 := HC3.out.mp.look d' HD32.out; rw [show datF l d' = _ from HDF.out] at hlk2; have HB3 := Lib.hid (show Below w.heap.size w w3 from HB2.out.trans ((Below.refl w.heap.size w2).grown hg3 HB2.out.size (fun k hk => by injection hk with hk; have := HC2.out.lo; omega))); have HS3L := Lib.hid (Nat.lt_of_lt_of_le HS2L.out hg3.size); clear hg3)
            | (refine wpList_load_mid rfl 29 _ rfl wr.heap.size (0) rfl _ _ HR3.out Tryz.underlying29 rfl HID.out ?_)
            | (refine wpList_slice_eqG rfl 25 1 [(0, .tmp 47)] rfl [(0, .agg (dv d'))] rfl _ _ (sliceDg _ d' HD32.out) ?_; have HZ4 := Lib.hid (dv_rowC w3 d'); have hb4 : Below w3.heap.size w3 (w3.alloc (.cells (dv d') 29)) := (Below.refl w3.heap.size w3).alloc (Nat.le_refl _) _; have HC4 := Lib.hid (HC3.out.below hb4); have HB4 := Lib.hid (HB3.out.trans (hb4.mono HB3.out.size)); clear hb4; generalize World.alloc w3 _ = w4 at *)
            | (at_builtin; refine wpList_append_dg_at rfl (.tmp 46) (.tmp 48) rfl w.heap.size _ M mm HML.out rfl HC4.out.m w3.heap.size d' rfl HZ4.out HD32.out (by omega) HB4.out.size ?_; intro sp6 cap6 w6 HO6 HB6 HG6 HW6))
          have HC6 := Lib.hid (HC4.out.gm HG6.out HO6.out HW6.out)
          have HB7 := Lib.hid (HB4.out.trans HB6.out)
          have HC7 := Lib.hid (show ClS w6 w.heap.size (.slice pg pm pc) (.slice sp6 (mm + 1) cap6) (.slice (some ⟨db, doff, none⟩) nw wc) P (M ++ [d']) V mb mn sb (sn + 1) (datF l) (seenP P (M ++ [d'])) from ⟨HC6.out.p, HC6.out.m, HC6.out.q, HC6.out.pm, HC6.out.pw, HC6.out.mw, HC6.out.mp, HC6.out.sn.congr (seenP_m P M d'), HC6.out.ms, HC6.out.lo⟩)
          have HLN7 : Hid (P.length = pm ∧ (M ++ [d']).length = mm + 1 ∧ V.length = nw) := ⟨HLN.out.1, by rw [List.length_append, HLN.out.2.1]; rfl, HVN.out⟩
          go_roundg (nw + pot l P)
          case measure => omega
          case rel => exact ⟨pm, pc, mm + 1, cap6, nw, wc, sn + 1, pg, sp6, some ⟨db, doff, none⟩, P, M ++ [d'], V, rfl, rfl, rfl, HC7.out, HLN7.out, HI2.out, Nat.le_refl _, by omega, by omega, HB7.out⟩
        | some x =>
          have HDF : Hid (datF l d' = some (.slice x.sp x.n x.cap)) := by show _ = _; unfold datF; rw [hf]; rfl
          have HFS := Lib.hid hf
          have HI2 := Lib.hid (HI.out.found HNS.out.1 HNS.out.2.1 hf)
          have HPA := Lib.hid (pot_add hf HNS.out.2.1)
          have HXM := Lib.hid (fnd_some hf).1
          clear hf
          have HPL := Lib.hid HLN.out.1.symm
          go_wp2_with (first
            | (refine wpList_load_mid rfl 29 _ rfl db (doff + nw * 32) rfl _ _ HDR.out Tryz.underlying29 rfl HID.out ?_)
            | (refine wpList_store_row rfl 29 _ _ rfl wr.heap.size _ rfl rfl 29 _ (heap_alloc_new wr _) HDVI.out (dv_size32 d' HD32.out.1) (dv_one d') ?_; rw [setRow_new, show (List.map (Value.int .u8) d').toArray = dv d' from rfl]; have hlk := HLK.out; generalize hw2 : World.alloc wr _ = w2 at *; clear hw2)
            | (refine wpList_load_mid rfl 29 _ rfl wr.heap.size (0) rfl _ _ HR2.out Tryz.underlying29 rfl HID.out ?_)
            | (at_mapUpdate; refine wpList_seen rfl (.tmp 36) (.tmp 37) (.const (.bool true)) rfl sb sn _ HC2.out.sn (by omega) d' HD32.out rfl rfl rfl ?_; intro w3 HS3 hg3; have HG3 := Lib.hid hg3; have HR3 := Lib.hid (show w3.rangeAt wr.heap.size 0 (d'.map (Value.int .u8)) from fun j v hv => (World.cell?_of_block (a := ⟨wr.heap.size, 0 + j, none⟩) (hg3.block wr.heap.size HS2L.out (fun e => by injection e with e; have := HSL.out; omega))).trans (HR2.out j v hv)); have HC3 := Lib.hid (HC2.out.gs hg3 HS3.out); have hlk2 := HC3.out.mp.look d' HD32.out; rw [show datF l d' = _ from HDF.out] at hlk2; have HB3 := Lib.hid (show Below w.heap.size w w3 from HB2.out.trans ((Below.refl w.heap.size w2).grown hg3 HB2.out.size (fun k hk => by injection hk with hk; have := HC2.out.lo; omega))); have HS3L := Lib.hid (Nat.lt_of_lt_of_le HS2L.out hg3.size); clear hg3)
            | (refine wpList_load_mid rfl 29 _ rfl wr.heap.size (0) rfl _ _ HR3.out Tryz.underlying29 rfl HID.out ?_)
            | (refine wpList_slice_eqG rfl 25 1 [(0, .tmp 51)] rfl [(0, .agg (dv d'))] rfl _ _ (sliceDg _ d' HD32.out) ?_; have HZ4 := Lib.hid (dv_rowC w3 d'); have hb4 : Below w3.heap.size w3 (w3.alloc (.cells (dv d') 29)) := (Below.refl w3.heap.size w3).alloc (Nat.le_refl _) _; have HC4 := Lib.hid (HC3.out.below hb4); have HB4 := Lib.hid (HB3.out.trans (hb4.mono HB3.out.size)); clear hb4; generalize World.alloc w3 _ = w4 at *)
            | (at_builtin; refine wpList_append_dg_at rfl (.tmp 50) (.tmp 52) rfl w.heap.size _ P pm HPL.out rfl HC4.out.p w3.heap.size d' rfl HZ4.out HD32.out (by omega) HB4.out.size ?_; intro sp6 cap6 w6 HO6 HB6 HG6 HW6))
          have HC6 := Lib.hid (HC4.out.gp HG6.out HO6.out HW6.out)
          have HB7 := Lib.hid (HB4.out.trans HB6.out)
          have HC7 := Lib.hid (show ClS w6 w.heap.size (.slice sp6 (pm + 1) cap6) (.slice mg mm mc) (.slice (some ⟨db, doff, none⟩) nw wc) (P ++ [d']) M V mb mn sb (sn + 1) (datF l) (seenP (P ++ [d']) M) from ⟨HC6.out.p, HC6.out.m, HC6.out.q, HC6.out.pm, HC6.out.pw, HC6.out.mw, HC6.out.mp, HC6.out.sn.congr (seenP_p P M d'), HC6.out.ms, HC6.out.lo⟩)
          have HDX := Lib.hid ((HL.out.dat x HXM.out).up HB7.out (Nat.le_refl _))
          have HDBN := Lib.hid (dec_bnd ⟨(uOf x.b).toArray⟩)
          clear HC6 HC4 HC3 HC2 HC HB2 HB3 HB4 HB6 HG6 HW6 HO6 HZ4 HR2 HR3 HS2L HS3L HG3 HS3 HLK hlk hlk2 HDF HW2 HDVI
          refine (links_any x.sp x.n x.cap (uOf x.b) w6 HDX.out.src.bsrc HDBN.out.1 HDBN.out.2.1 HDBN.out.2.2).mono ?_
          rintro e w7 ⟨sl, ml, cl, rfl, hml, hown7, b7⟩
          have HML := Lib.hid (show ml = (lnkB x).length from hml)
          have hml4 : nw + ml + pot l (P ++ [d']) ≤ nw + pot l P := by
            have h1 := HPA.out
            have h4 : ml = (lnkB x).length := hml
            omega
          have HC8 := Lib.hid (HC7.out.below b7)
          have HD8 := Lib.hid ((show OwnDg w7 w6.heap.size (.slice sl ml cl) (lnkB x) from hown7).digs hml.symm)
          have HN8 := Lib.hid (show OwnDg w7 w6.heap.size (.slice sl ml cl) (lnkB x) from hown7).nilcap
          have HB8 := Lib.hid (HB7.out.trans (b7.mono HB7.out.size))
          clear hml hown7 b7 HC7
          have HVL := Lib.hid HVN.out.symm
          go_wp2_with (at_builtin; refine wpList_append_dgs_at rfl (.tmp 54) (.tmp 56) rfl w.heap.size _ V nw HVL.out rfl HC8.out.q sl ml cl w7.heap.size (lnkB x) rfl HD8.out HN8.out (by omega) HB8.out.size ?_; intro sp9 cap9 w9 HO9 HB9 HG9 HW9)
          have HC9 := Lib.hid (HC8.out.gw HG9.out HO9.out HW9.out)
          have HB10 := Lib.hid (HB8.out.trans HB9.out)
          have HLN9 : Hid ((P ++ [d']).length = pm + 1 ∧ M.length = mm ∧ (V ++ lnkB x).length = nw + ml) := ⟨by rw [List.length_append, HLN.out.1]; rfl, HLN.out.2.1, by rw [List.length_append, HVN.out, ← HML.out]⟩
          clear HML HVL
          go_roundg (nw + ml + pot l (P ++ [d']))
          case measure => omega
          case rel => exact ⟨pm + 1, cap6, mm, mc, nw + ml, cap9, sn + 1, sp6, mg, sp9, P ++ [d'], M, V ++ lnkB x, rfl, rfl, rfl, HC9.out, HLN9.out, HI2.out, Nat.le_refl _, by omega, by omega, HB10.out⟩

end Go.Proofs.YtdjknefbaclleaaGreatDoor
