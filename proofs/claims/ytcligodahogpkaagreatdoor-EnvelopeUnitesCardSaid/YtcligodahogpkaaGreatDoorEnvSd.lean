/-
  Carved out of other texts: what the walks here need of them (conditions in each theorem).
-/
import Derived.Test.YtcligodahogpkaaGreatDoorZip
import Derived.Test.YtcligodahogpkaaGreatDoorJ3
import Derived.Deep.Slices
import Derived.SliceStrings
import Derived.ProofKit
import Derived.OpenShut
import Derived.ShutString
import Derived.ChangeOld
set_option maxRecDepth 100000
set_option maxHeartbeats 8000000
namespace Go.Proofs.YtcligodahogpkaaGreatDoor
open Go.RowKit
theorem tJ {a b : Bool} (h : a = b) : Ending.returned (.bool a) = Ending.returned (.bool b) := by rw [h]
theorem GP {w : World} {B : Nat} {sp : Option Addr} {n cap : Nat} {l : List (List Int)} (h : DigsIn w B sp n cap l) {k : Nat} (hk : k < n) : ∃ (x : List Int) (b off : Nat), l[k]? = some x ∧ D32 x ∧ sp = some ⟨b, off, none⟩ ∧ b < B ∧ n ≤ cap ∧ w.rangeAt b (off + k * 32) (x.map (Value.int .u8)) := by
 obtain ⟨b, off, e, hb, hc, hr⟩ := h.cells (by omega)
 have hkl : k < l.length := by rw [h.len]; exact hk
 have hg : l.getD k [] = l[k] := by rw [List.getD_eq_getElem?_getD, List.getElem?_eq_getElem hkl]; rfl
 have hx := h.digs l[k] (List.getElem_mem hkl)
 exact ⟨l[k], b, off, List.getElem?_eq_getElem hkl, ⟨hx.1, hx.2⟩, e, hb, hc, by have := hr k hk; rwa [hg] at this⟩
theorem uL {α : Type} (f : α → List Value) (sz : Nat) (h0 : 0 < sz) : ∀ (l : List α), (∀ x ∈ l, (f x).length = sz) → ∀ (j : Nat) (v : Value), (l.flatMap f)[j]? = some v → ∃ x, l[j / sz]? = some x ∧ (f x)[j % sz]? = some v
 | [], _, j, v, hj => by simp at hj
 | y :: l, h, j, v, hj => by
   have hy := h y (by simp)
   rw [List.flatMap_cons] at hj
   by_cases hlt : j < sz
   ·rw [List.getElem?_append_left (by omega)] at hj
    exact ⟨y, by rw [Nat.div_eq_of_lt hlt]; rfl, by rw [Nat.mod_eq_of_lt hlt]; exact hj⟩
   ·rw [List.getElem?_append_right (by omega), hy] at hj
    obtain ⟨x, h1, h2⟩ := uL f sz h0 l (fun z hz => h z (by simp [hz])) (j - sz) v hj
    refine ⟨x, ?_, ?_⟩
    ·rw [Nat.div_eq_sub_div h0 (by omega), List.getElem?_cons_succ]; exact h1
    ·rw [Nat.mod_eq_sub_mod (by omega)]; exact h2
theorem uK {α : Type} (f : α → List Value) (sz : Nat) : ∀ (l : List α), (∀ x ∈ l, (f x).length = sz) → (l.flatMap f).length = l.length * sz
 | [], _ => by simp
 | y :: l, h => by
   rw [List.flatMap_cons, List.length_append, h y (by simp), uK f sz l (fun z hz => h z (by simp [hz])), List.length_cons, Nat.add_mul]; omega
def slD (sp : Option Addr) (k cap : Nat) : Option Addr := if cap = k then sp else sp.map (·.add (k * 32))
theorem xH (k cap : Nat) (sp : Option Addr) : (slD sp k cap = none) = (sp = none) := by
 unfold slD; split
 ·rfl
 ·simp
theorem NR (w : World) : (sizeOf 43).run Tryz.prog w = .ok 32 w := by
 have h := rU
 cases hi : Tryz.prog.info? 43 with
 | none => rw [hi] at h; cases h
 | some i => rw [hi] at h; injection h with h; simp [sizeOf, typeInfo, hi, h]
theorem BO (w : World) (sp : Option Addr) (n cap k : Nat) (hk : k ≤ n) :
 (Instr.slice 38 (.slice sp n cap) (some (.int .i64 k)) none none).run Tryz.prog w = .ok (.slice (slD sp k cap) (n - k) (cap - k)) w := by
 have h1 : (0 : Int) ≤ (k : Int) ∧ (k : Int) ≤ (n : Int) := ⟨by omega, by omega⟩
 simp [Instr.slice, Instr.sliceBounds, Instr.sliceBound, asIntOf, run_underlying Tryz.underlying38, NR, hk, slD]
theorem kK {ops : Array Oper} {S : World → Prop} {op : Oper} {a : Act} (hw : Region.wanted op (yielded ops a.tmps) = true) (x lo : Operand) (ho : op.op = .slice 38 x (some lo) none none)
 (sp : Option Addr) (n cap k : Nat) (hx : a.eval x = .slice sp n cap) (hlo : a.eval lo = .int .i64 k) (hk : k ≤ n) : YieldsIf Tryz.prog ops S op (.slice (slD sp k cap) (n - k) (cap - k)) a :=
 .inl ⟨hw, fun w _ => by
  unfold execOp
  simp only [ho, Option.map_some, Option.map_none, hx, hlo]
  have := BO w sp n cap k hk
  simp [Instr.sliceAt, run_underlying Tryz.underlying38, this]⟩
theorem DigsIn.at {w : World} {B : Nat} {sp : Option Addr} {n cap : Nat} {l : List (List Int)} (h : DigsIn w B sp n cap l) (hn : 0 < n) : ∃ b off, sp = some ⟨b, off, none⟩ ∧ b < B ∧ n ≤ cap ∧ ∀ i x, l[i]? = some x → w.rangeAt b (off + i * 32) (x.map (Value.int .u8)) := by
 obtain ⟨b, off, e, hb, hc, hr⟩ := h.cells hn
 refine ⟨b, off, e, hb, hc, fun i x hi => ?_⟩
 have hl := (List.getElem?_eq_some_iff.1 hi).1
 have := hr i (by rw [← h.len]; exact hl)
 rwa [List.getD_eq_getElem?_getD, hi] at this
theorem DigsIn.mk' {w : World} {B : Nat} {sp : Option Addr} {n cap : Nat} {l : List (List Int)} (hl : l.length = n) (hd : ∀ x ∈ l, D32 x) (h : 0 < n → ∃ b off, sp = some ⟨b, off, none⟩ ∧ b < B ∧ n ≤ cap ∧ ∀ i x, l[i]? = some x → w.rangeAt b (off + i * 32) (x.map (Value.int .u8))) : DigsIn w B sp n cap l :=
 ⟨hl, fun x hx => ⟨(hd x hx).1, (hd x hx).2⟩, fun hn => by
  obtain ⟨b, off, e, hb, hc, hr⟩ := h hn
  exact ⟨b, off, e, hb, hc, fun i hi => hr i _ (by rw [List.getD_eq_getElem?_getD, List.getElem?_eq_getElem (by omega)]; rfl)⟩⟩
theorem DigsIn.d32 {w : World} {B : Nat} {sp : Option Addr} {n cap : Nat} {l : List (List Int)} (h : DigsIn w B sp n cap l) : ∀ x ∈ l, D32 x := fun x hx => ⟨(h.digs x hx).1, (h.digs x hx).2⟩
theorem DigsIn.upD {w w' : World} {da : Option Addr} {B n cap : Nat} {l : List (List Int)} (h : DigsIn w B da n cap l) (hb : Below B w w') (hs : B ≤ w'.heap.size) : DigsIn w' w'.heap.size da n cap l :=
 ⟨h.len, h.digs, fun hn => by
  obtain ⟨b, off, e, hlt, hc, hr⟩ := h.cells hn
  exact ⟨b, off, e, Nat.lt_of_lt_of_le hlt hs, hc, fun i hi => oT (hr i hi) hb hlt⟩⟩
theorem DigsIn.cutD {w : World} {B : Nat} {sp : Option Addr} {n cap : Nat} {l : List (List Int)} (h : DigsIn w B sp n cap l) {k : Nat} (hk : k ≤ n) : DigsIn w B (slD sp k cap) (n - k) (cap - k) (l.drop k) :=
 DigsIn.mk' (by rw [List.length_drop, h.len]) (fun x hx => h.d32 x (List.mem_of_mem_drop hx)) fun hn => by
  obtain ⟨b, off, rfl, hlt, hc, hr⟩ := h.at (by omega)
  refine ⟨b, off + k * 32, ?_, hlt, by omega, fun i x hi => ?_⟩
  ·unfold slD; rw [if_neg (by omega)]; simp only [Option.map_some, Addr.add_mid]
  ·rw [List.getElem?_drop] at hi
   have := hr (k + i) x hi
   rw [show off + (k + i) * 32 = off + k * 32 + i * 32 by omega] at this
   exact this
theorem DigsIn.one {w : World} {b : Nat} {x : List Int} (h : w.rangeAt b 0 (x.map (Value.int .u8))) (hb : b < w.heap.size) (hx : D32 x) : DigsIn w w.heap.size (some ⟨b, 0, none⟩) 1 1 [x] :=
 DigsIn.mk' rfl (fun y hy => by rw [List.mem_singleton.1 hy]; exact hx) fun _ => ⟨b, 0, rfl, hb, Nat.le_refl _, fun i y hi => by
  rcases i with _ | i
  ·have e : x = y := by simpa using hi
   subst e; exact h
  ·simp at hi⟩
theorem rJ (l m : List (List Int)) : lI (l ++ m) = lI l ++ lI m := by simp [lI]
theorem OwnDg.nilcap {w : World} {base n cap : Nat} {sp : Option Addr} {l : List (List Int)} (h : OwnDg w base (.slice sp n cap) l) : sp = none → cap = 0 := by
 rintro rfl
 obtain ⟨_, ⟨e, _⟩ | ⟨g, c, u, e, _⟩⟩ := h.1
 ·cases e; rfl
 ·cases e
theorem BY {w : World} {base n cap : Nat} {sp : Option Addr} {l : List (List Int)} (h : OwnDg w base (.slice sp n cap) l) : ∀ b off, sp = some ⟨b, off, none⟩ → base ≤ b := by
 rintro b off rfl
 obtain ⟨_, ⟨e, _⟩ | ⟨g, c, u, e, hb, _⟩⟩ := h.1
 ·cases e
 ·injection e with e _ _; injection e with e; injection e with e1 _ _; rw [e1]; exact hb
theorem mB {w : World} {ops : Array Oper} {rest : List Oper} {o : Oper} {a : Act} {Q : Exit → Act → World → Prop} (hgd : o.guard = none) (s x : Operand)
 (ho : o.op = .call { callee := .builtin .append, args := #[s, x], argTypes := #[38, 38] }) (base : Nat) (v : Value) (l : List (List Int)) (n : Nat) (hn : n = l.length) (hs : a.eval s = v) (hown : OwnDg w base v l)
 (g : Nat) (y : List Int) (hx : a.eval x = .slice (some ⟨g, 0, none⟩) 1 1) (hy : w.rangeAt g 0 (y.map (Value.int .u8))) (hok : D32 y) (hlen : n ≤ 1000000000) (hbase : base ≤ w.heap.size)
 (h : ∀ sp cap w', Hid (OwnDg w' base (.slice sp (n + 1) cap) (l ++ [y])) → Hid (Below base w w') → Hid (w.grownBy w' v.ownBlock) → wpList Tryz.prog ops Q rest (a.put o.dst (.slice sp (n + 1) cap)) w') : wpList Tryz.prog ops Q (o :: rest) a w := by
 subst hn
 obtain ⟨i0, hi0, hz0, hz1, hz2⟩ := info_parts CU
 refine wpList_append_own w hgd s x _ ho base _ i0 _ 32 32 Tryz.underlying38 hi0 hz0 hz1 hz2 rfl (by decide) v l.length _ hs hown.1 ⟨g, 0, none⟩ 1 1 (y.map (Value.int .u8)) hx (by rw [List.length_map, hok.1]) ?_ (gG _ _) (by unfold maxLen; omega) (by omega) hbase ?_
 ·intro j u hj
  rw [Addr.add_mid]
  exact hy j u hj
 ·intro v' w' h1 h2 _
  obtain ⟨sp, cap, rfl⟩ := aZ h1
  refine h sp cap w' ⟨by rw [oP, List.length_append]; exact h1, fun z hz => ?_⟩ ((Below.refl base w).grown h2 hbase (bL hown.1)) h2
  rcases List.mem_append.1 hz with hz | hz
  ·exact hown.2 z hz
  ·rw [List.mem_singleton.1 hz]; exact hok
theorem GG (sp1 : Option Addr) (n1 c1 : Nat) (a : List (List Int)) (d : List Int) (w : World) (ha : DigsIn w w.heap.size sp1 n1 c1 a) (hd : D32 d) (hn : n1 ≤ 1000000000) :
 Calls Tryz.prog 36 #[.slice sp1 n1 c1, .agg (d.map (Value.int .u8)).toArray] w fun e w' => e = .returned (.bool (decide (d ∈ a))) ∧ Below w.heap.size w w' := by
 have HA := zh ha; have HD := zh hd; clear ha
 have HB := zh ((Below.refl w.heap.size w).alloc (Nat.le_refl _) (.cells (d.map (Value.int .u8)).toArray 43))
 have hr : (w.alloc (.cells (d.map (Value.int .u8)).toArray 43)).rangeAt w.heap.size 0 (d.map (Value.int .u8)) := dP (pre := []) (post := []) (heap_alloc_new w _) (by simp) rfl
 have HID := zh (jP hd)
 clear hd
 go_enter Tryz.func36, Tryz.ntmps36
 go_wp2_with fail
 generalize hw0 : World.alloc w _ = w0 at HB hr
 have hs0 : w.heap.size < w0.heap.size := by rw [← hw0]; simp
 have HR := zh hr; clear hr hw0
 go_loopw [5] (fun i wr => ∃ k : Nat, k ≤ n1 ∧ i = .int .i64 k ∧ Hid (d ∉ a.take k) ∧ Hid (Below w0.heap.size w0 wr)) (fun i _ => n1 - (intOf i).toNat)
 case atStart => exact ⟨0, Nat.zero_le _, rfl, by show d ∉ a.take 0; simp, Below.refl _ _⟩
 case round =>
  obtain ⟨k, hk, rfl, HT, hbe⟩ := hrel
  have HBW := zh (HB.out.trans (hbe.out.mono HB.out.size))
  by_cases hlt : k < n1
  ·have hd : decide ((k : Int) < (n1 : Int)) = true := by simp; omega
   obtain ⟨x, b1, o1, hx, hxo, rfl, hb1, hcap1, hr1⟩ := GP HA.out hlt
   have HX := zh (aA hr1 HBW.out.drew hb1)
   have HY := zh (aA HR.out hbe.out.drew hs0)
   have HIX := zh (jP hxo)
   have he := eqlD x d hxo.1 HD.out.1
   obtain ⟨c, hc⟩ : ∃ c, decide (x = d) = c := ⟨_, rfl⟩
   rw [hc] at he
   have HC := zh hc; have HXX := zh hx
   have p1 : (0 : Int) ≤ (k : Int) := by omega
   have p2 : (k : Int) < (n1 : Int) := by omega
   have q1 : IntKind.i64.wrap (k : Int) = (k : Int) := IntWalk.i64_in _ (by omega)
   have HB1 := zh hbe.out.drew; have HB2 := zh HBW.out.drew
   clear hx hr1 hxo hc
   go_wp2_with fail
   refine wp_region_held_drew (S := fun w' => w'.rangeAt b1 (o1 + k * 32) (x.map (Value.int .u8)) ∧ w'.rangeAt w.heap.size 0 (d.map (Value.int .u8))) (by kernel_rfl) ⟨HX.out, HY.out⟩ (fun hHeld => ?_)
   refine zv 0 rfl ?_
   refine zv 1 rfl ?_
   refine zv 2 rfl ?_
   refine' zk 3 rfl (v := _) (yieldsIf_load_mid (by rfl) _ _ rfl _ _ rfl _ _ ?hS3n13 Tryz.underlying43 rfl HIX.out) ?rest3n13
   case hS3n13 =>
    intro w' hSw
    exact hSw.1
   try simp only [Act.put, zA, zB, zC, zD, zE, zF]
   refine' zk 4 rfl (v := _) (yieldsIf_load_mid (by rfl) _ _ rfl _ _ rfl _ _ ?hS4n14 Tryz.underlying43 rfl HID.out) ?rest4n14
   case hS4n14 =>
    intro w' hSw
    exact hSw.2
   try simp only [Act.put, zA, zB, zC, zD, zE, zF]
   refine zv 5 rfl ?_
   refine zd ?_ _
   clear hHeld
   cases c
   ·go_wp2_with fail
    go_roundw
    case rel =>
     refine ⟨k + 1, by omega, by go_num, ?_, HB1⟩
     show d ∉ a.take (k + 1)
     rw [List.take_add_one, HXX.out]
     intro hm
     rcases List.mem_append.1 hm with hm | hm
     ·exact HT.out hm
     ·exact of_decide_eq_false HC.out (Eq.symm (by simpa using hm))
    case measure => simp [intOf]; omega
   ·have HM : Hid (decide (d ∈ a) = true) := by
     show _ = _
     rw [← of_decide_eq_true HC.out]
     exact decide_eq_true (List.mem_of_getElem? HXX.out)
    go_wp2_with fail
    go_ret
    exact ⟨tJ HM.out.symm, HB2.out⟩
  ·obtain rfl : k = n1 := by omega
   have hd : decide ((k : Int) < (k : Int)) = false := by simp
   have HM : Hid (decide (d ∈ a) = false) := by
    show _ = _
    have h1 := HT.out
    rw [List.take_of_length_le (by rw [HA.out.len]; exact Nat.le_refl _)] at h1
    exact decide_eq_false h1
   go_wp2_with fail
   go_ret
   exact ⟨tJ HM.out.symm, HBW.out⟩
theorem fU {w : World} {o : Oper} {a : Act} {K : Act → World → Prop} {Q : Exit → Act → World → Prop} (s x : Operand)
 (ho : o.op = .call { callee := .builtin .append, args := #[s, x], argTypes := #[38, 38] }) (base : Nat) (v : Value) (l : List (List Int)) (n : Nat) (hn : n = l.length) (hs : a.eval s = v) (hown : OwnDg w base v l)
 (sp2 : Option Addr) (m cap2 B : Nat) (l2 : List (List Int)) (hx : a.eval x = .slice sp2 m cap2) (hsrc : DigsIn w B sp2 m cap2 l2) (hnil : sp2 = none → cap2 = 0) (hlen : n + m ≤ 100000000) (hbase : base ≤ w.heap.size)
 (h : ∀ sp cap w', Hid (OwnDg w' base (.slice sp (n + m) cap) (l ++ l2)) → Hid (Below base w w') → Hid (w.grownBy w' v.ownBlock) → K (a.put o.dst (.slice sp (n + m) cap)) w') : o.wp Tryz.prog a w K Q := by
 subst hn
 obtain ⟨i0, hi0, hz0, hz1, hz2⟩ := info_parts CU
 have hl2 := hsrc.len
 cases sp2 with
 | none =>
   have hm : m = 0 := by
    by_cases h0 : 0 < m
    ·obtain ⟨_, _, e, _⟩ := hsrc.cells h0; cases e
    ·omega
   subst hm
   have e2 : l2 = [] := List.eq_nil_of_length_eq_zero hl2
   subst e2
   rw [hnil rfl] at hx
   have hrun := run_append_owned_none (P := Tryz.prog) (w := w) base 38 o.type 43 i0 32 Tryz.underlying38 hi0 v l.length _ hown.1
   obtain ⟨sp, cap, rfl⟩ := aZ hown.1
   unfold Oper.wp
   simp [execOp, ho, resolve, invoke, builtin, hs, hx, hrun, Result.andThen]
   exact h sp cap w (by show OwnDg _ _ _ _; simpa using hown) (Below.refl _ _) (World.grownBy.refl _ _)
 | some ad =>
   refine wp_append_own w s x _ ho base _ i0 _ 32 32 Tryz.underlying38 hi0 hz0 hz1 hz2 rfl (by decide) v l.length _ hs hown.1 ad m cap2 (lI l2) hx (by rw [← hl2]; exact uK (fun d : List Int => d.map (Value.int .u8)) 32 l2 (fun z hz => by rw [List.length_map, (hsrc.d32 z hz).1])) ?_ (fun u hu => by
    obtain ⟨y, _, hy⟩ := List.mem_flatMap.1 hu
    exact gG _ _ u hy) (by unfold maxLen; omega) (by omega) hbase ?_
   ·intro j u hj
    obtain ⟨y, h1, h2⟩ := uL (fun d : List Int => d.map (Value.int .u8)) 32 (by decide) l2 (fun z hz => by rw [List.length_map, (hsrc.d32 z hz).1]) j u hj
    have hlt := (List.getElem?_eq_some_iff.1 h1).1
    obtain ⟨b, off, e, _, _, hr⟩ := hsrc.at (by omega)
    injection e with e; subst e
    have := hr _ y h1 _ u h2
    rw [Addr.add_mid]
    rw [show off + j = off + j / 32 * 32 + j % 32 by omega]
    exact this
   ·intro v' w' h1 h2 _
    obtain ⟨sp, cap, rfl⟩ := aZ h1
    refine h sp cap w' ⟨by rw [rJ, List.length_append, hl2]; exact h1, fun z hz => ?_⟩ ((Below.refl base w).grown h2 hbase (bL hown.1)) h2
    rcases List.mem_append.1 hz with hz | hz
    ·exact hown.2 z hz
    ·exact hsrc.d32 z hz
def OV (l : List (List Int)) (d : List Int) (T : List (List Int)) : Prop := (d ∈ l ∧ T = l) ∨ (d ∉ l ∧ ∃ k, (∀ y ∈ l.take k, dls y d = true) ∧ (∀ y, l[k]? = some y → dls y d = false) ∧ T = l.take k ++ d :: l.drop k)
theorem KV (sp : Option Addr) (n cap : Nat) (l : List (List Int)) (d : List Int) (w : World) (hl : DigsIn w w.heap.size sp n cap l) (hnil : sp = none → cap = 0) (hx : D32 d) (hn : n ≤ 80000000) :
 Calls Tryz.prog 14 #[.slice sp n cap, .agg (d.map (Value.int .u8)).toArray] w fun e w' => ∃ sp' m cap' T, e = .returned (.slice sp' m cap') ∧ OV l d T ∧ DigsIn w' w'.heap.size sp' m cap' T ∧ (sp' = none → cap' = 0) ∧ (sp' = sp ∨ ∀ b off, sp' = some ⟨b, off, none⟩ → w.heap.size ≤ b) ∧ Below w.heap.size w w' := by
 have HL := zh hl; have uY := zh hnil; have HOX := zh hx
 have HIX := zh (jP hx)
 have HNW := zh (show (w.alloc (.cells (d.map (Value.int .u8)).toArray 43)).rangeAt w.heap.size 0 (d.map (Value.int .u8)) from dP (pre := []) (post := []) (heap_alloc_new w _) (by simp) rfl)
 clear hl hnil hx
 go_enter Tryz.func14, Tryz.ntmps14
 go_wp2_with (refine wpList_load_mid rfl 43 _ rfl w.heap.size 0 rfl _ _ HNW.out Tryz.underlying43 rfl HIX.out ?_)
 generalize hw0 : World.alloc w _ = wz
 have HXZ := zh (show wz.rangeAt w.heap.size 0 (d.map (Value.int .u8)) by rw [← hw0]; exact HNW.out)
 have HBZ := zh (show Below w.heap.size w wz by rw [← hw0]; exact (Below.refl _ _).alloc (Nat.le_refl _) _)
 have HSZ := zh (show w.heap.size + 1 ≤ wz.heap.size by rw [← hw0]; simp)
 clear hw0 HNW
 have EL := zh (GG sp n cap l d wz (HL.out.upD HBZ.out (Nat.le_of_succ_le HSZ.out)) HOX.out (by omega))
 by_cases hin : d ∈ l
 ·rw [decide_eq_true hin] at EL
  have HIN := zh hin; clear hin
  refine EL.out.mono ?_
  rintro e w1 ⟨rfl, hb1⟩
  have HB1 := zh (HBZ.out.trans (hb1.mono HBZ.out.size))
  clear hb1
  go_wp2_with fail
  go_ret
  exact ⟨sp, n, cap, l, rfl, .inl ⟨HIN.out, rfl⟩, HL.out.upD HB1.out HB1.out.size, uY.out, .inl rfl, HB1.out⟩
 rw [decide_eq_false hin] at EL
 have HNIN := zh hin; clear hin
 refine EL.out.mono ?_
 rintro e w0 ⟨rfl, hb1⟩
 have HX0 := zh (aA HXZ.out hb1 HSZ.out)
 have HB0 := zh (HBZ.out.trans (hb1.mono HBZ.out.size))
 have HS0 := zh (Nat.le_trans HSZ.out hb1.size)
 clear hb1 HXZ HBZ HSZ EL
 go_wp2_with fail
 go_loopw [5, 6] (fun v i wr => ∃ (k c : Nat) (g : Option Addr), v = .slice g k c ∧ i = .int .i64 k ∧ k ≤ n ∧ Hid (OwnDg wr (w.heap.size + 1) (.slice g k c) (l.take k) ∧ (∀ y ∈ l.take k, dls y d = true) ∧ Below (w.heap.size + 1) w0 wr)) (fun _ i _ => n - (intOf i).toNat)
 case atStart => exact ⟨0, 0, none, rfl, rfl, Nat.zero_le _, OwnDg.nil _ _, fun y hy => (by simp at hy), Below.refl _ _⟩
 case round =>
  obtain ⟨k, c, gv, rfl, rfl, hk, H⟩ := hrel
  have HO := zh H.out.1; have II := zh H.out.2.1; have HBE := zh H.out.2.2
  clear H
  have HKL := zh (show k = (l.take k).length by rw [List.length_take, HL.out.len]; omega)
  have p1 : (0 : Int) ≤ (k : Int) := by omega
  have q0 : IntKind.i64.wrap (k : Int) = (k : Int) := IntWalk.i64_in _ (by omega)
  by_cases hlt : k < n
  ·have hd : decide ((k : Int) < (n : Int)) = true := by simp; omega
   have p2 : (k : Int) < (n : Int) := by omega
   obtain ⟨b, off, rfl, hbB, hcap, hr⟩ := HL.out.at (by omega)
   obtain ⟨y, hy⟩ : ∃ y, l[k]? = some y := ⟨l[k]'(by have := HL.out.len; omega), List.getElem?_eq_getElem _⟩
   have HYM := zh (List.mem_of_getElem? hy)
   have HYR := zh (hr k y hy)
   have HBB := zh hbB
   have HOY := zh (HL.out.d32 y HYM.out)
   have HIY := zh (jP HOY.out)
   have HT := zh (show l.take (k + 1) = l.take k ++ [y] by rw [List.take_add_one, hy]; rfl)
   have HYX := zh hy
   have hCC : ∀ w', Calls Tryz.prog 37 #[.agg (y.map (Value.int .u8)).toArray, .agg (d.map (Value.int .u8)).toArray] w' fun e w'' => e = .returned (.bool (dls y d)) ∧ Below w'.heap.size w' w'' := fun w' => rP y d w' HOY.out HOX.out
   clear hr hy
   cases hdl : dls y d
   ·rw [hdl] at hCC
    have wW := zh (show ∀ z, l[k]? = some z → dls z d = false from fun z hz => by rw [HYX.out] at hz; injection hz with hz; rw [← hz]; exact hdl)
    clear hdl
    go_wp2_with fail
    refine wp_region_held_drew (S := fun w' => Below (w.heap.size + 1) w0 w') (by kernel_rfl) HBE.out.drew (fun hHeld => ?_)
    refine zv 0 rfl ?_
    refine zv 1 rfl ?_
    refine zv 2 rfl ?_
    refine zv 3 rfl ?_
    refine zv 4 rfl ?_
    refine zv 5 rfl ?_
    refine zv 6 rfl ?_
    refine zv 7 rfl ?_
    refine' zk 8 rfl (v := _) (yieldsIf_load_mid (by rfl) _ _ rfl _ _ rfl _ _ ?hS8n9 Tryz.underlying43 rfl HIY.out) ?rest8n9
    case hS8n9 =>
     intro w' hSw
     exact (aA HYR.out (HB0.out.trans (hSw.mono (Nat.le_succ _))) HBB.out)
    try simp only [Act.put, zA, zB, zC, zD, zE, zF]
    refine' zk 9 rfl (v := _) (yieldsIf_load_mid (by rfl) _ _ rfl _ _ rfl _ _ ?hS9n10 Tryz.underlying43 rfl HIX.out) ?rest9n10
    case hS9n10 =>
     intro w' hSw
     exact (aA HX0.out hSw (Nat.lt_succ_self _))
    try simp only [Act.put, zA, zB, zC, zD, zE, zF]
    refine zr 10 rfl (fun K hK => ?_)
    go_simp
    with_reducible refine (hCC _).mono ?_
    rintro e wd ⟨rfl, hb3⟩
    have HBD := zh (HBE.out.drew.trans (hb3.mono (Nat.le_trans HS0.out HBE.out.size)))
    have HOW := zh ((HO.out.below ((Below.refl wr.heap.size wr).drew)).below hb3)
    go_wp2_with fail
    refine hK.out _ _ (HBE.out.drew.trans (hb3.mono (Nat.le_trans HS0.out HBE.out.size))) fun _ => ?_; clear hK K
    try simp only [Act.put, zA, zB, zC, zD, zE, zF]
    refine zv 11 rfl ?_
    refine zd ?_ _
    clear hHeld
    go_wp2_with fail
    have HOD := zh HOW.out
    have HSD := zh (show w.heap.size + 1 ≤ wd.heap.size from Nat.le_trans HS0.out HBD.out.size)
    refine wp_region_held_drew (S := fun w' => Below (w.heap.size + 1) w0 w') (by kernel_rfl) (HBD.out.drew) (fun hHeld => ?_)
    refine zv 0 rfl ?_
    refine' zk 1 rfl (v := _) (yieldsIf_load_mid (by rfl) _ _ rfl _ _ rfl _ _ ?hS1n24 Tryz.underlying43 rfl HIX.out) ?rest1n24
    case hS1n24 =>
     intro w' hSw
     exact (aA HX0.out hSw (Nat.lt_succ_self _))
    try simp only [Act.put, zA, zB, zC, zD, zE, zF]
    refine zv 4 rfl ?_
    refine zv 5 rfl ?_
    refine' zk 6 rfl (v := _) (kK (by rfl) _ _ rfl (some ⟨b, off, none⟩) n cap k rfl rfl hk) ?rest6n27
    try simp only [Act.put, zA, zB, zC, zD, zE, zF]
    refine zr 2 rfl (fun K hK => ?_)
    rw [if_pos (by rfl)]
    refine aX 38 1 [(0, .tmp 33)] rfl [(0, .agg (dv d))] rfl _ _ (rG _ d HOX.out) ?_
    have HZ3 := zh (show (wd.drew.alloc (.cells (dv d) 43)).rangeAt wd.heap.size 0 (d.map (Value.int .u8)) from dP (pre := []) (post := []) (heap_alloc_new wd.drew _) (by simp [dv]) rfl)
    have HZL := zh (show wd.heap.size < (wd.drew.alloc (.cells (dv d) 43)).heap.size by simp)
    have HB3 := zh (HBD.out.drew.alloc HSD.out (.cells (dv d) 43))
    have HO3 := zh (HOD.out.below ((Below.refl wd.heap.size wd).drew.alloc (Nat.le_refl _) (.cells (dv d) 43)))
    generalize World.alloc wd.drew _ = w3 at *
    have HB1 := zh (DigsIn.one HZ3.out HZL.out HOX.out)
    refine hK.out _ _ HB3.out fun _ => ?_; clear hK K
    try simp only [Act.put, zA, zB, zC, zD, zE, zF]
    refine zr 3 rfl (fun K hK => ?_)
    rw [if_pos (by rfl)]
    refine fU (.tmp 32) (.tmp 34) rfl (w.heap.size + 1) _ (l.take k) k HKL.out rfl HO3.out (some ⟨wd.heap.size, 0, none⟩) 1 1 _ [d] rfl HB1.out (fun h => (by cases h)) (by omega) (Nat.le_trans HS0.out HB3.out.size) ?_
    intro sp4 c4 w4 HO4 HB4 HG4
    have HB5 := zh (HB3.out.trans HB4.out)
    refine hK.out _ _ HB5.out fun _ => ?_; clear hK K
    try simp only [Act.put, zA, zB, zC, zD, zE, zF]
    refine zr 7 rfl (fun K hK => ?_)
    rw [if_pos (by rfl)]
    refine fU (.tmp 35) (.tmp 38) rfl (w.heap.size + 1) _ (l.take k ++ [d]) (k + 1) (by rw [List.length_append, ← HKL.out]; rfl) rfl HO4.out _ (n - k) (cap - k) _ _ rfl ((HL.out.below (HB0.out.trans (HB5.out.mono (Nat.le_succ _))) (Nat.le_refl _)).cutD hk) (by rw [xH]; exact fun h => by rw [uY.out h]; simp) (by omega) (Nat.le_trans HS0.out HB5.out.size) ?_
    intro sp6 c6 w6 HO6 HB6 HG6
    have HB7 := zh (HB5.out.trans HB6.out)
    refine hK.out _ _ HB7.out fun _ => ?_; clear hK K
    try simp only [Act.put, zA, zB, zC, zD, zE, zF]
    refine zv 8 rfl ?_
    refine zd ?_ _
    clear hHeld
    have HKN := zh (show k + 1 + (n - k) = n + 1 by omega)
    have HO8 := zh (show OwnDg w6 w.heap.size (.slice sp6 (k + 1 + (n - k)) c6) (l.take k ++ d :: l.drop k) by have := HO6.out.base (Nat.le_succ w.heap.size); rw [List.append_assoc] at this; exact this)
    have HL8 := zh (show (l.take k ++ d :: l.drop k).length = k + 1 + (n - k) by
     have h1 : (l.take k).length + (l.drop k).length = l.length := by rw [← List.length_append, List.take_append_drop]
     rw [List.length_append, List.length_cons]; have := HL.out.len; omega)
    go_wp2_with fail
    go_ret
    exact ⟨sp6, _, c6, _, rfl, .inr ⟨HNIN.out, k, II.out, wW.out, rfl⟩, HO8.out.digs HL8.out, HO8.out.nilcap, .inr (BY HO8.out), HB0.out.trans (HB7.out.mono (Nat.le_succ _))⟩
   ·rw [hdl] at hCC
    have MY := zh (show ∀ z ∈ l.take (k + 1), dls z d = true by
     rw [HT.out]; intro z hz
     rcases List.mem_append.1 hz with hz | hz
     ·exact II.out z hz
     ·rw [List.mem_singleton.1 hz]; exact hdl)
    clear hdl
    go_wp2_with fail
    refine wp_region_held_drew (S := fun w' => Below (w.heap.size + 1) w0 w') (by kernel_rfl) HBE.out.drew (fun hHeld => ?_)
    refine zv 0 rfl ?_
    refine zv 1 rfl ?_
    refine zv 2 rfl ?_
    refine zv 3 rfl ?_
    refine zv 4 rfl ?_
    refine zv 5 rfl ?_
    refine zv 6 rfl ?_
    refine zv 7 rfl ?_
    refine' zk 8 rfl (v := _) (yieldsIf_load_mid (by rfl) _ _ rfl _ _ rfl _ _ ?hS8n20 Tryz.underlying43 rfl HIY.out) ?rest8n20
    case hS8n20 =>
     intro w' hSw
     exact (aA HYR.out (HB0.out.trans (hSw.mono (Nat.le_succ _))) HBB.out)
    try simp only [Act.put, zA, zB, zC, zD, zE, zF]
    refine' zk 9 rfl (v := _) (yieldsIf_load_mid (by rfl) _ _ rfl _ _ rfl _ _ ?hS9n21 Tryz.underlying43 rfl HIX.out) ?rest9n21
    case hS9n21 =>
     intro w' hSw
     exact (aA HX0.out hSw (Nat.lt_succ_self _))
    try simp only [Act.put, zA, zB, zC, zD, zE, zF]
    refine zr 10 rfl (fun K hK => ?_)
    go_simp
    with_reducible refine (hCC _).mono ?_
    rintro e wd ⟨rfl, hb3⟩
    have HBD := zh (HBE.out.drew.trans (hb3.mono (Nat.le_trans HS0.out HBE.out.size)))
    have HOW := zh ((HO.out.below ((Below.refl wr.heap.size wr).drew)).below hb3)
    go_wp2_with fail
    refine hK.out _ _ (HBE.out.drew.trans (hb3.mono (Nat.le_trans HS0.out HBE.out.size))) fun _ => ?_; clear hK K
    try simp only [Act.put, zA, zB, zC, zD, zE, zF]
    refine zv 11 rfl ?_
    refine zd ?_ _
    clear hHeld
    have HYD := zh (aA HYR.out (HB0.out.trans (HBD.out.mono (Nat.le_succ _))) HBB.out)
    go_wp2_with (first
     | (refine wpList_load_mid rfl 43 _ rfl b (off + k * 32) rfl _ _ HYD.out Tryz.underlying43 rfl HIY.out ?_)
     | (refine bR rfl 38 1 [(0, .tmp 27)] rfl [(0, .agg (dv y))] rfl _ _ (rG _ y HOY.out) ?_; have HZ4 := zh (show (wd.alloc (.cells (dv y) 43)).rangeAt wd.heap.size 0 (y.map (Value.int .u8)) from dP (pre := []) (post := []) (heap_alloc_new wd _) (by simp [dv]) rfl); have HO4 := zh (HOW.out.below ((Below.refl wd.heap.size wd).alloc (Nat.le_refl _) (.cells (dv y) 43))); have HB4 := zh (HBD.out.alloc (Nat.le_trans HS0.out HBD.out.size) (.cells (dv y) 43)); generalize World.alloc wd _ = w4 at *)
     | (at_builtin; refine mB rfl (.tmp 23) (.tmp 28) rfl (w.heap.size + 1) _ (l.take k) k HKL.out rfl HO4.out wd.heap.size y rfl HZ4.out HOY.out (by omega) (Nat.le_trans HS0.out HB4.out.size) ?_; intro sp5 cap5 w5 HO5 HB5 HG5))
    have HB6 := zh (HB4.out.trans HB5.out)
    go_roundw
    case rel => exact ⟨k + 1, cap5, sp5, rfl, by go_num, by omega, by rw [HT.out]; exact HO5.out, MY.out, HB6.out⟩
    case measure => simp [intOf]; omega
  ·have hkn : k = n := by omega
   have hd : decide ((k : Int) < (n : Int)) = false := by simp; omega
   have wW := zh (show ∀ z, l[k]? = some z → dls z d = false from fun z hz => by rw [List.getElem?_eq_none (by have := HL.out.len; omega)] at hz; cases hz)
   clear hkn
   go_wp2_with fail
   go_quiet (fail)
   have HBD := zh (HBE.out.trans (show Below (w.heap.size + 1) wr (World.drewN wr nq) from ⟨rfl, rfl, rfl, Nat.le_refl _, fun _ _ => rfl⟩))
   have HOW := zh (HO.out.below (show Below wr.heap.size wr (World.drewN wr nq) from ⟨rfl, rfl, rfl, Nat.le_refl _, fun _ _ => rfl⟩))
   generalize World.drewN wr nq = wd at *
   go_wp2_with fail
   have HOD := zh HOW.out
   have HSD := zh (show w.heap.size + 1 ≤ wd.heap.size from Nat.le_trans HS0.out HBD.out.size)
   refine wp_region_held_drew (S := fun w' => Below (w.heap.size + 1) w0 w') (by kernel_rfl) (HBD.out.drew) (fun hHeld => ?_)
   refine zv 0 rfl ?_
   refine' zk 1 rfl (v := _) (yieldsIf_load_mid (by rfl) _ _ rfl _ _ rfl _ _ ?hS1n30 Tryz.underlying43 rfl HIX.out) ?rest1n30
   case hS1n30 =>
    intro w' hSw
    exact (aA HX0.out hSw (Nat.lt_succ_self _))
   try simp only [Act.put, zA, zB, zC, zD, zE, zF]
   refine zv 4 rfl ?_
   refine zv 5 rfl ?_
   refine' zk 6 rfl (v := _) (kK (by rfl) _ _ rfl sp n cap k rfl rfl hk) ?rest6n33
   try simp only [Act.put, zA, zB, zC, zD, zE, zF]
   refine zr 2 rfl (fun K hK => ?_)
   rw [if_pos (by rfl)]
   refine aX 38 1 [(0, .tmp 33)] rfl [(0, .agg (dv d))] rfl _ _ (rG _ d HOX.out) ?_
   have HZ3 := zh (show (wd.drew.alloc (.cells (dv d) 43)).rangeAt wd.heap.size 0 (d.map (Value.int .u8)) from dP (pre := []) (post := []) (heap_alloc_new wd.drew _) (by simp [dv]) rfl)
   have HZL := zh (show wd.heap.size < (wd.drew.alloc (.cells (dv d) 43)).heap.size by simp)
   have HB3 := zh (HBD.out.drew.alloc HSD.out (.cells (dv d) 43))
   have HO3 := zh (HOD.out.below ((Below.refl wd.heap.size wd).drew.alloc (Nat.le_refl _) (.cells (dv d) 43)))
   generalize World.alloc wd.drew _ = w3 at *
   have HB1 := zh (DigsIn.one HZ3.out HZL.out HOX.out)
   refine hK.out _ _ HB3.out fun _ => ?_; clear hK K
   try simp only [Act.put, zA, zB, zC, zD, zE, zF]
   refine zr 3 rfl (fun K hK => ?_)
   rw [if_pos (by rfl)]
   refine fU (.tmp 32) (.tmp 34) rfl (w.heap.size + 1) _ (l.take k) k HKL.out rfl HO3.out (some ⟨wd.heap.size, 0, none⟩) 1 1 _ [d] rfl HB1.out (fun h => (by cases h)) (by omega) (Nat.le_trans HS0.out HB3.out.size) ?_
   intro sp4 c4 w4 HO4 HB4 HG4
   have HB5 := zh (HB3.out.trans HB4.out)
   refine hK.out _ _ HB5.out fun _ => ?_; clear hK K
   try simp only [Act.put, zA, zB, zC, zD, zE, zF]
   refine zr 7 rfl (fun K hK => ?_)
   rw [if_pos (by rfl)]
   refine fU (.tmp 35) (.tmp 38) rfl (w.heap.size + 1) _ (l.take k ++ [d]) (k + 1) (by rw [List.length_append, ← HKL.out]; rfl) rfl HO4.out _ (n - k) (cap - k) _ _ rfl ((HL.out.below (HB0.out.trans (HB5.out.mono (Nat.le_succ _))) (Nat.le_refl _)).cutD hk) (by rw [xH]; exact fun h => by rw [uY.out h]; simp) (by omega) (Nat.le_trans HS0.out HB5.out.size) ?_
   intro sp6 c6 w6 HO6 HB6 HG6
   have HB7 := zh (HB5.out.trans HB6.out)
   refine hK.out _ _ HB7.out fun _ => ?_; clear hK K
   try simp only [Act.put, zA, zB, zC, zD, zE, zF]
   refine zv 8 rfl ?_
   refine zd ?_ _
   clear hHeld
   have HKN := zh (show k + 1 + (n - k) = n + 1 by omega)
   have HO8 := zh (show OwnDg w6 w.heap.size (.slice sp6 (k + 1 + (n - k)) c6) (l.take k ++ d :: l.drop k) by have := HO6.out.base (Nat.le_succ w.heap.size); rw [List.append_assoc] at this; exact this)
   have HL8 := zh (show (l.take k ++ d :: l.drop k).length = k + 1 + (n - k) by
    have h1 : (l.take k).length + (l.drop k).length = l.length := by rw [← List.length_append, List.take_append_drop]
    rw [List.length_append, List.length_cons]; have := HL.out.len; omega)
   go_wp2_with fail
   go_ret
   exact ⟨sp6, _, c6, _, rfl, .inr ⟨HNIN.out, k, II.out, wW.out, rfl⟩, HO8.out.digs HL8.out, HO8.out.nilcap, .inr (BY HO8.out), HB0.out.trans (HB7.out.mono (Nat.le_succ _))⟩
theorem FO (sp : Option Addr) (n cap : Nat) (l : List (List Int)) (d : List Int) (w : World) (hl : DigsIn w w.heap.size sp n cap l) (hnil : sp = none → cap = 0) (hx : D32 d) (hn : n ≤ 80000000) :
 Calls Tryz.prog 14 #[.slice sp n cap, .agg (d.map (Value.int .u8)).toArray] w fun e w' => ∃ sp' m cap' T, e = .returned (.slice sp' m cap') ∧ OV l d T ∧ DigsIn w' w'.heap.size sp' m cap' T ∧ (sp' = none → cap' = 0) ∧ Below w.heap.size w w' :=
 (KV sp n cap l d w hl hnil hx hn).mono fun _ _ ⟨sp', m, cap', T, h1, h2, h3, h4, _, h5⟩ => ⟨sp', m, cap', T, h1, h2, h3, h4, h5⟩
end Go.Proofs.YtcligodahogpkaaGreatDoor
