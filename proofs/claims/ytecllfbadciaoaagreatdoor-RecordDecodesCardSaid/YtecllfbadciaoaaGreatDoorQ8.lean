/-
  The walks of the reference's find and Lookup (conditions: digests of 32 bytes, at most 1000000 elements).
-/
import Derived.Test.YtecllfbadciaoaaGreatDoorZip
import Derived.Test.YtecllfbadciaoaaGreatDoorSnK
import Derived.Laws.AppendOwnNone
set_option maxRecDepth 100000
set_option maxHeartbeats 8000000
namespace Go.Proofs.YtecllfbadciaoaaGreatDoor
open Go.RowKit
def FindRes (w : World) (r : Option Cg) (e : Ending) (w' : World) : Prop := match r with
 | none => e = .returned (.tuple #[.agg (cgL ⟨⟨#[]⟩, zed, zed⟩).toArray, .bool false]) ∧ Below w.heap.size w w'
 | some x => e = .returned (.tuple #[.agg (cgL x).toArray, .bool true]) ∧ Below w.heap.size w w'
def LookRes (w : World) (r : Option En) (e : Ending) (w' : World) : Prop := match r with
 | none => e = .returned (.tuple #[.agg (zed.map (Value.int .u8)).toArray, .bool false]) ∧ Below w.heap.size w w'
 | some x => e = .returned (.tuple #[.agg (x.d.map (Value.int .u8)).toArray, .bool true]) ∧ Below w.heap.size w w'
theorem zeroCg_ok : OkC ⟨⟨#[]⟩, zed, zed⟩ := ⟨D32.zed, D32.zed⟩
theorem dgA_one (d : List Int) : ((d.map (Value.int .u8)).toArray).all (·.oneCell') = true := Array.all_eq_true_iff_forall_mem.2 (by simp [Value.oneCell'])
def slP (sz : Nat) (sp : Option Addr) (k cap : Nat) : Option Addr := if cap = k then sp else sp.map (·.add (k * sz))
theorem sizeOf_of {t : TypeId} {n : Nat} (h : (Tryz.prog.info? t).map (·.size) = some n) (w : World) : (sizeOf t).run Tryz.prog w = .ok n w := by
 cases hi : Tryz.prog.info? t with
 | none => rw [hi] at h; cases h
 | some i => rw [hi] at h; injection h with h; simp [sizeOf, typeInfo, hi, h]
theorem run_cut {t e : TypeId} {sz : Nat} (ht : Tryz.prog.underlying t = some (.slice e)) (he : (Tryz.prog.info? e).map (·.size) = some sz) (w : World) (sp : Option Addr) (n cap k : Nat) (hk : k ≤ n) :
 (Instr.slice t (.slice sp n cap) (some (.int .i64 k)) none none).run Tryz.prog w = .ok (.slice (slP sz sp k cap) (n - k) (cap - k)) w := by
 have h1 : (0 : Int) ≤ (k : Int) ∧ (k : Int) ≤ (n : Int) := ⟨by omega, by omega⟩
 simp [Instr.slice, Instr.sliceBounds, Instr.sliceBound, asIntOf, run_underlying ht, sizeOf_of he, hk, slP]
theorem yieldsIf_cut {t e : TypeId} {sz : Nat} (ht : Tryz.prog.underlying t = some (.slice e)) (he : (Tryz.prog.info? e).map (·.size) = some sz) {ops : Array Oper} {S : World → Prop} {op : Oper} {a : Act} (hw : Region.wanted op (yielded ops a.tmps) = true) (x lo : Operand) (ho : op.op = .slice t x (some lo) none none)
 (sp : Option Addr) (n cap k : Nat) (hx : a.eval x = .slice sp n cap) (hlo : a.eval lo = .int .i64 k) (hk : k ≤ n) : YieldsIf Tryz.prog ops S op (.slice (slP sz sp k cap) (n - k) (cap - k)) a :=
 .inl ⟨hw, fun w _ => by
  unfold execOp
  simp only [ho, Option.map_some, Option.map_none, hx, hlo]
  have := run_cut ht he w sp n cap k hk
  simp [Instr.sliceAt, run_underlying ht, this]⟩
theorem slP_none (sz k cap : Nat) (sp : Option Addr) : (slP sz sp k cap = none) = (sp = none) := by
 unfold slP; split
 ·rfl
 ·simp
theorem ins_at {α : Type} {f : α → ByteArray} {l a b : List α} {x : α} (ha : a.all (fun y => pls (f y) (f x)) = true) (hl : l = a ++ b) (hb : b.head?.all (fun y => !pls (f y) (f x)) = true) : ins f l x = (a ++ [x]) ++ b := by
 subst hl
 have ha' : ∀ y ∈ a, pls (f y) (f x) = true := by simpa using ha
 unfold ins
 have hbt : b.takeWhile (fun y => pls (f y) (f x)) = [] := by
  cases b with
  | nil => rfl
  | cons y b => have : pls (f y) (f x) = false := by simpa using hb
                simp [this]
 have hbd : b.dropWhile (fun y => pls (f y) (f x)) = b := by
  cases b with
  | nil => rfl
  | cons y b => have : pls (f y) (f x) = false := by simpa using hb
                simp [this]
 rw [List.takeWhile_append_of_pos ha', List.dropWhile_append_of_pos ha', hbt, hbd]; simp
theorem CgsIn.cut {w : World} {B : Nat} {sp : Option Addr} {n cap : Nat} {l : List Cg} (h : CgsIn w B sp n cap l) {k : Nat} (hk : k ≤ n) : CgsIn w B (slP 65 sp k cap) (n - k) (cap - k) (l.drop k) :=
 ⟨by rw [List.length_drop, h.len], fun x hx => h.ok x (List.mem_of_mem_drop hx), fun hn => by
  obtain ⟨b, off, rfl, hlt, hc, hr⟩ := h.cells (by omega)
  refine ⟨b, off + k * 65, ?_, hlt, by omega, fun i x hi => ?_⟩
  ·unfold slP; rw [if_neg (by omega)]; simp only [Option.map_some, Addr.add_mid]
  ·rw [List.getElem?_drop] at hi
   have := hr (k + i) x hi
   rw [show off + (k + i) * 65 = off + k * 65 + i * 65 by omega] at this
   exact this⟩
theorem EnsIn.cut {w : World} {B : Nat} {sp : Option Addr} {n cap : Nat} {l : List En} (h : EnsIn w B sp n cap l) {k : Nat} (hk : k ≤ n) : EnsIn w B (slP 33 sp k cap) (n - k) (cap - k) (l.drop k) :=
 ⟨by rw [List.length_drop, h.len], fun x hx => h.ok x (List.mem_of_mem_drop hx), fun hn => by
  obtain ⟨b, off, rfl, hlt, hc, hr⟩ := h.cells (by omega)
  refine ⟨b, off + k * 33, ?_, hlt, by omega, fun i x hi => ?_⟩
  ·unfold slP; rw [if_neg (by omega)]; simp only [Option.map_some, Addr.add_mid]
  ·rw [List.getElem?_drop] at hi
   have := hr (k + i) x hi
   rw [show off + (k + i) * 33 = off + k * 33 + i * 33 by omega] at this
   exact this⟩
theorem wp_appendsEnS {o : Oper} {a : Act} {w : World} {K : Act → World → Prop} {Q : Exit → Act → World → Prop} (s x : Operand)
 (ho : o.op = .call { callee := .builtin .append, args := #[s, x], argTypes := #[29, 29] }) (base : Nat) (v : Value) (l : List En) (n : Nat) (hn : n = l.length) (hs : a.eval s = v) (hown : OwnE w base v l)
 (sp : Option Addr) (m c : Nat) (hx : a.eval x = .slice sp m c) {B : Nat} {l2 : List En} (hsrc : EnsIn w B sp m c l2) (hnil : sp = none → c = 0) (hlen : n ≤ 1000000) (hm : m ≤ 1000000) (hbase : base ≤ w.heap.size)
 (h : ∀ sp' cap w', Hid (OwnE w' base (.slice sp' (n + m) cap) (l ++ l2)) → Hid (Below base w w') → K (a.put o.dst (.slice sp' (n + m) cap)) w') : o.wp Tryz.prog a w K Q := by
 subst hn
 obtain ⟨i0, hi0, hz0, hz1, hz2⟩ := info_parts infoE3
 have hok : ∀ z ∈ l ++ l2, OkE z := fun z hz => by
  rcases List.mem_append.1 hz with hz | hz
  ·exact hown.2 z hz
  ·exact hsrc.ok z hz
 have hl2 := hsrc.len
 cases sp with
 | none =>
   have hm0 : m = 0 := by
    by_cases h0 : 0 < m
    ·obtain ⟨_, _, e, _⟩ := hsrc.cells h0; cases e
    ·omega
   have hn2 : l2 = [] := List.eq_nil_of_length_eq_zero (by omega)
   subst hn2 hm0
   have hc0 := hnil rfl
   subst hc0
   have hrun := run_append_owned_none (P := Tryz.prog) (w := w) base 29 o.type 82 i0 33 Tryz.underlying29 hi0 v l.length (rowsE l) hown.1
   obtain ⟨sp', cap', rfl⟩ := own_shapeS hown.1
   unfold Oper.wp
   simp [execOp, ho, resolve, invoke, builtin, hs, hx, hrun, Result.andThen]
   exact h sp' cap' w ⟨by rw [List.append_nil]; exact hown.1, hok⟩ (Below.refl _ _)
 | some ad =>
   have hcells : ∀ j u, (l2.flatMap enL)[j]? = some u → w.cell? (ad.add j) = some u := by
    intro j u hj
    have hlt := (List.getElem?_eq_some_iff.1 hj).1
    have hfl : (l2.flatMap enL).length = m * 33 := by
     rw [List.length_flatMap, ← hl2]
     have : ∀ q : List En, (∀ z ∈ q, OkE z) → (q.map fun z => (enL z).length).sum = q.length * 33 := by
      intro q hq
      induction q with
      | nil => rfl
      | cons z q ih => rw [List.map_cons, List.sum_cons, ih (fun y hy => hq y (by simp [hy])), enL_length (hq z (by simp)), List.length_cons]; omega
     exact this l2 hsrc.ok
    obtain ⟨b, off, e, _, _, hr⟩ := hsrc.cells (by omega)
    injection e with e; subst e
    rw [Addr.add_mid]
    have hi : j / 33 < l2.length := by rw [hl2]; exact Nat.div_lt_of_lt_mul (by rw [Nat.mul_comm]; omega)
    have hx' : l2[j / 33]? = some l2[j / 33] := List.getElem?_eq_getElem hi
    have hjm : j % 33 < (enL l2[j / 33]).length := by rw [enL_length (hsrc.ok _ (List.getElem_mem hi))]; exact Nat.mod_lt _ (by decide)
    have hv := flat_at enL 33 l2 (fun z hz => enL_length (hsrc.ok z hz)) (j / 33) _ hx' (j % 33) _ (List.getElem?_eq_getElem hjm)
    rw [show j / 33 * 33 + j % 33 = j by omega, hj] at hv
    have := hr (j / 33) _ hx' (j % 33) _ (List.getElem?_eq_getElem hjm)
    rw [← hv] at this
    rw [show off + j = off + j / 33 * 33 + j % 33 by omega]
    exact this
   have hfl : (l2.flatMap enL).length = m * 33 := by
    rw [List.length_flatMap, ← hl2]
    have : ∀ q : List En, (∀ z ∈ q, OkE z) → (q.map fun z => (enL z).length).sum = q.length * 33 := by
     intro q hq
     induction q with
     | nil => rfl
     | cons z q ih => rw [List.map_cons, List.sum_cons, ih (fun y hy => hq y (by simp [hy])), enL_length (hq z (by simp)), List.length_cons]; omega
    exact this l2 hsrc.ok
   refine wp_append_own w s x _ ho base _ i0 _ 33 48 Tryz.underlying29 hi0 hz0 hz1 hz2 rfl (by decide) v l.length _ hs hown.1 ad m c (l2.flatMap enL) hx hfl hcells ?_ (by unfold maxLen; omega) (by omega) hbase ?_
   ·intro u hu
    obtain ⟨z, _, hz⟩ := List.mem_flatMap.1 hu
    exact enL_one z u hz
   ·intro v' w' h1 h2 _
    obtain ⟨sp', cap, rfl⟩ := own_shapeS h1
    refine h sp' cap w' ⟨?_, hok⟩ ((Below.refl base w).grown h2 hbase (own_baseS hown.1))
    rw [List.length_append, hl2, show rowsE (l ++ l2) = rowsE l ++ l2.flatMap enL by simp [rowsE]]
    exact h1
structure CpS (w : World) (v : Value) (out : List Cg) (bx : Nat) (y : Cg) (W : World) : Prop where
 own : OwnC W w.heap.size v out
 below : Below w.heap.size w W
 box : CgB W bx y
theorem CpS.lt {w : World} {v : Value} {out : List Cg} {bx : Nat} {y : Cg} {W : World} (h : CpS w v out bx y W) : bx < W.heap.size := (Array.getElem?_eq_some_iff.1 h.box).1
theorem CpS.next {w : World} {v : Value} {out : List Cg} {bx : Nat} {y : Cg} {W W' : World} (h : CpS w v out bx y W) (hb : Below W.heap.size W W') : CpS w v out bx y W' :=
 ⟨h.own.below hb, h.below.trans (hb.mono h.below.size), h.box.below hb h.lt⟩
theorem vldE_parts {l : List En} (h : vldE l = true) : l.length ≤ 64 ∧ Srt En.p l ∧ ∀ x ∈ l, x.d ≠ zed := by
 unfold vldE at h
 rw [Bool.and_eq_true, Bool.and_eq_true] at h
 refine ⟨by simpa using h.1.1, (ascB_iff l).1 h.2, fun x hx e => ?_⟩
 have h1 : l.any badE = false := by simpa using h.1.2
 have := List.any_eq_false.1 h1 x hx
 unfold badE at this
 rw [decide_eq_true e] at this; simp at this
def e1 : List Int := 1 :: List.replicate 31 0
theorem Turn.setRow {tb g : Nat} {w w1 : World} (h : Turn tb w w1) (hg : w.heap.size ≤ g) (cs : Array Value) : Turn tb w (w1.setRow g cs) := by
 have hb := below_setRow (Below.refl w.heap.size w1) hg cs
 exact ⟨hb.os.trans h.os, hb.tape.trans h.tape, hb.output.trans h.output, Nat.le_trans h.size hb.size, fun k hk hn => (hb.block k hk).trans (h.block k hk hn)⟩
def dg1 (r : Nat) : List Int := (1 + (r : Int)) :: List.replicate 31 0
theorem dg1_ok (r : Nat) (h : r < 6) : D32 (dg1 r) := ⟨rfl, fun x hx => by
 rcases List.mem_cons.1 hx with rfl | h
 ·omega
 ·rw [List.eq_of_mem_replicate h]; omega⟩
theorem dg1_ne (r : Nat) : dg1 r ≠ zed := fun e => by
 have : (1 + (r : Int)) = 0 := by
  have h2 := congrArg (fun l : List Int => l.getD 0 0) e
  exact h2
 omega
theorem buildD1 (x : Int) (w : World) : (Instr.build 80 #[(0, .int .u8 x)]).run Tryz.prog w = .ok (.agg ((x :: List.replicate 31 0).map (Value.int .u8)).toArray) w := by kernel_rfl
theorem tsum_any (tb q : Nat) (w : World) (ht : Tp w tb (q + 1)) :
 Calls Tryz.prog 96 #[.pointer (some ⟨tb, 0, none⟩)] w fun e w' => ∃ d : List Int, e = .returned (.agg (d.map (Value.int .u8)).toArray) ∧ D32 d ∧ d ≠ zed ∧ Tp w' tb q ∧ Turn tb w w' := by
 have HT := zh ht; clear ht
 go_enter Tryz.func96, Tryz.ntmps96
 go_wp2_with fail
 generalize hw0 : World.alloc w _ = w0
 have hr0 : w0.heap[w.heap.size]? = some (.cells (Array.replicate 32 (Value.int .u8 0)) 80 (0, 0)) := by rw [← hw0]; exact heap_alloc_new _ _
 have hb0 : Below w.heap.size w w0 := by rw [← hw0]; exact (Below.refl _ _).alloc (Nat.le_refl _) _
 have HTL := zh HT.out.lt
 have HR0 := zh hr0; have HB0 := zh hb0
 have HT0 := zh (HT.out.of hb0)
 clear hw0 hr0 hb0
 refine (next_any tb 6 q w0 HT0.out (by omega) (by omega)).mono ?_
 rintro e w1 ⟨r, rfl, hr, ht1, hu1⟩
 have hlt0 : w.heap.size < w0.heap.size := (Array.getElem?_eq_some_iff.1 HR0.out).1
 have HR1 := zh ((hu1.block w.heap.size hlt0 (by have := HTL.out; omega)).trans HR0.out)
 have HT1 := zh ht1
 have HU1 := zh ((Turn.of (tb := tb) HB0.out).trans hu1); clear ht1 hu1
 have q1 : IntKind.u8.wrap (1 + (r : Int)) = 1 + (r : Int) := by unfold IntKind.wrap; simp [IntKind.signed, IntKind.bits]; omega
 have HOK := zh (dg1_ok r hr)
 have HI1 : Hid ((Tryz.prog.info? 80).map (·.size) = some ((dg1 r).map (Value.int .u8)).toArray.size) := by show _ = _; rw [List.size_toArray]; exact info_d HOK.out
 have HI1s : Hid (32 = ((dg1 r).map (Value.int .u8)).toArray.size) := by show _ = _; rfl
 go_wp2_with (first
  | (refine wpList_build_eq rfl 80 [(0, .tmp 6)] rfl [(0, .int .u8 (1 + (r : Int)))] rfl _ (buildD1 _ _) ?_)
  | (refine wpList_store_row rfl 80 _ _ rfl w.heap.size ((dg1 r).map (Value.int .u8)).toArray rfl rfl 80 _ HR1.out HI1.out ((rfl : (Array.replicate 32 (Value.int .u8 0)).size = 32).trans HI1s.out) (dgA_one _) ?_))
 refine bodyPost_ret (results_row1 (P := Tryz.prog) rfl _ _ w.heap.size 80 _ (0, 0) _ rfl (setRow_heap _ _ _ _ _ _ HR1.out) Tryz.underlying80 rfl HI1.out) rfl ?_
 exact ⟨dg1 r, rfl, HOK.out, dg1_ne r, HT1.out.ofB (below_setRow (Below.refl w.heap.size w1) (Nat.le_refl _) _) HTL.out, HU1.out.setRow (Nat.le_refl _) _⟩
def dirsT : List ByteArray := [⟨#[97]⟩, ⟨#[98]⟩, ⟨#[115, 114, 99]⟩, ⟨#[111, 117, 116]⟩, ⟨#[108, 105, 98]⟩]
def filesT : List ByteArray := [⟨#[97]⟩, ⟨#[98]⟩, ⟨#[97, 46, 99]⟩, ⟨#[98, 46, 104]⟩, ⟨#[120]⟩, ⟨#[111, 117, 116]⟩]
def preT : Nat → List ByteArray
 | 0 => [⟨#[]⟩]
 | j + 1 => (preT j).flatMap fun s => dirsT.map fun d => s ++ d ++ ⟨#[47]⟩
theorem paths_ok : ∀ j, j < 3 → ∀ s ∈ preT j, ∀ f ∈ filesT, pathB (s ++ f) = true := by decide +kernel
theorem preT_size : ∀ j, j < 3 → ∀ s ∈ preT j, s.size ≤ 100 := by decide +kernel
theorem dirsT_size : ∀ d ∈ dirsT, d.size ≤ 100 := by decide +kernel
theorem filesT_size : ∀ d ∈ filesT, d.size ≤ 100 := by decide +kernel
theorem preT_next {j : Nat} {s d : ByteArray} (h : s ∈ preT j) (hd : d ∈ dirsT) : s ++ d ++ ⟨#[47]⟩ ∈ preT (j + 1) := List.mem_flatMap.2 ⟨s, h, List.mem_map.2 ⟨d, hd, rfl⟩⟩
theorem path_any (tb q : Nat) (w : World) (ht : Tp w tb (q + 4)) :
 Calls Tryz.prog 95 #[.pointer (some ⟨tb, 0, none⟩)] w fun e w' => ∃ s : ByteArray, e = .returned (.string s) ∧ pathB s = true ∧ Tp w' tb q ∧ Turn tb w w' := by
 have HT := zh ht; clear ht
 go_enter Tryz.func95, Tryz.ntmps95
 go_wp2_with fail
 refine (next_any tb 3 (q + 3) w HT.out (by omega) (by omega)).mono ?_
 rintro e w1 ⟨r, rfl, hr, ht1, hu1⟩
 have HT1 := zh ht1; have HU1 := zh hu1; clear ht1 hu1
 go_wp2_with fail
 go_loopw [3, 4] (fun v i wr => ∃ (j n : Nat) (s : ByteArray), j + n = r ∧ i = .int .i64 n ∧ v = .string s ∧ Hid (s ∈ preT j) ∧ Hid (Tp wr tb (q + 1 + n)) ∧ Hid (Turn tb w wr)) (fun _ i _ => (intOf i).toNat)
 case atStart => exact ⟨0, r, _, by omega, rfl, rfl, by show _ ∈ _; exact List.mem_singleton.2 rfl, HT1.out.le (by omega), HU1.out⟩
 case round =>
 clear HT1 HU1
 obtain ⟨j, n, s, hj, rfl, rfl, HS, HTT, HU⟩ := hrel
 by_cases hn : 0 < n
 ·have hd : decide ((n : Int) > 0) = true := by simp; omega
  have q1 : IntKind.i64.wrap ((n : Int) - 1) = (n : Int) - 1 := IntWalk.i64_in _ (by omega)
  go_wp2_with fail
  refine (pick_new tb (q + n) 5 dirsT wr (HTT.out.le (by omega)) rfl (by omega) (by omega)).mono ?_
  rintro e w2 ⟨d, hdm, rfl, ht2, hu2⟩
  have HS2 := zh (preT_next HS.out hdm)
  have z1 := preT_size j (by omega) s HS.out
  have z2 := dirsT_size d hdm
  have g1 : s.size + d.size ≤ 9223372036854775807 := by omega
  have g2 : s.size + d.size + 1 ≤ 9223372036854775807 := by omega
  have HT2 := zh ht2; have HU2 := zh (HU.out.trans hu2)
  clear ht2 hu2 hdm
  go_wp2_with fail
  go_roundw
  case rel => exact ⟨j + 1, n - 1, s ++ d ++ ⟨#[47]⟩, by omega, by go_num, rfl, HS2, HT2.out.le (by omega), HU2⟩
  case measure => simp [intOf]; omega
 ·obtain rfl : n = 0 := by omega
  have HO := zh (paths_ok j (by omega) s HS.out)
  go_wp2_with fail
  refine (pick_new tb q 6 filesT wr (HTT.out.le (by omega)) rfl (by omega) (by omega)).mono ?_
  rintro e w2 ⟨f, hfm, rfl, ht2, hu2⟩
  have HF := zh (HO.out f hfm)
  have z1 := preT_size j (by omega) s HS.out
  have z2 := filesT_size f hfm
  have g1 : s.size + f.size ≤ 9223372036854775807 := by omega
  have HT2 := zh ht2; have HU2 := zh (HU.out.trans hu2)
  clear ht2 hu2 hfm
  go_wp2_with fail
  go_ret
  exact ⟨_, rfl, HF.out, HT2.out, HU2.out⟩
end Go.Proofs.YtecllfbadciaoaaGreatDoor
