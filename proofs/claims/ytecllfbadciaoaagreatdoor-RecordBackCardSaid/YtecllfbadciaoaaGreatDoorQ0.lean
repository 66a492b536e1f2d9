/-
  A region that draws its order, walked by an invariant over the states in which it may stand: operation by operation, not order by order. It names no program's function.
-/
import Derived.Test.YtecllfbadciaoaaGreatDoorZip
import Derived.Deep.RegionHeld
import Derived.WalkKit
import Derived.Test.YtecllfbadciaoaaGreatDoorChecked
import Derived.Below
import Derived.Lib.Hide
import Derived.Lib.AppendStr
import Derived.Deep.OwnRows
import Derived.Deep.LoopGhost
import Derived.OwnWalk
import Derived.IntWalk
import Derived.Deep.RegionHeld3
import GoSem.Claim
import Derived.Sort.Walk0
import Derived.Lib.Bytealg
set_option maxRecDepth 100000
set_option maxHeartbeats 8000000
namespace Go.Proofs.YtecllfbadciaoaaGreatDoor
section
variable {P : Program} {ops : Array Oper} {Q : Exit → Act → World → Prop} {md : Region.Mode} {S : World → Prop}
theorem wpAnyH_inv (I : Nat → Array Bool → Act → World → Prop)
 (h : ∀ n listed a w, I n listed a w → wpAnyH P md ops Q S n listed a w ∨ ∃ m, n = m + 1 ∧ Region.ready md ops listed ≠ [] ∧ ∀ i ∈ Region.ready md ops listed, wpOp P ops Q i (fun a' w' => S w' ∧ I m (listed.setIfInBounds i true) a' w') a w) :
 ∀ (n : Nat) (listed : Array Bool) (a : Act) (w : World), I n listed a w → wpAnyH P md ops Q S n listed a w
 | 0, listed, a, w, hI => by
   rcases h 0 listed a w hI with h1 | ⟨m, h1, _⟩
   ·exact h1
   ·omega
 | n + 1, listed, a, w, hI => by
   rcases h (n + 1) listed a w hI with h1 | ⟨m, h1, h2, h3⟩
   ·exact h1
   ·obtain rfl : n = m := by omega
    exact ⟨fun h0 => absurd h0 h2, fun i hi => wpOp_mono (fun a' w' h' => ⟨h'.1, wpAnyH_inv I h n _ a' w' h'.2⟩) (h3 i hi)⟩
def canB (md : Region.Mode) (ops : Array Oper) (listed : Array Bool) (i : Nat) : Bool := !listed.getD i true && ((ops[i]?).map (·.after.all fun e => !Region.binds md e || listed.getD e.on false)).getD false
theorem canB_of {listed : Array Bool} {i : Nat} (h : i ∈ Region.ready md ops listed) : canB md ops listed i = true := (List.mem_filter.1 h).2
theorem can_lt {listed : Array Bool} {i : Nat} (h : i ∈ Region.ready md ops listed) : i < ops.size := List.mem_range.1 (List.mem_filter.1 h).1
theorem ready_of {listed : Array Bool} {i : Nat} (hi : i < ops.size) (h : canB md ops listed i = true) : Region.ready md ops listed ≠ [] := List.ne_nil_of_mem (List.mem_filter.2 ⟨List.mem_range.2 hi, h⟩ : i ∈ Region.ready md ops listed)
end
end Go.Proofs.YtecllfbadciaoaaGreatDoor
namespace Go.Proofs.YtecllfbadciaoaaGreatDoor
open Go.RowKit
structure TpIn (w : World) (tb : Nat) (sp : Option Addr) (n cap : Nat) (l : List Int) (k : Nat) : Prop where
 row : w.heap[tb]? = some (.cells #[.slice sp n cap, .int .i64 k] 35 (0, 0))
 len : l.length = n
 cells : 0 < n → ∃ b off, sp = some ⟨b, off, none⟩ ∧ b < tb ∧ n ≤ cap ∧ ∀ i v, l[i]? = some v → w.cell? ⟨b, off + i, none⟩ = some (.int .i64 v)
 wide : ∀ v ∈ l, -9223372036854775808 ≤ v ∧ v ≤ 9223372036854775807
 short : n ≤ 9223372036854775807
structure Turn (tb : Nat) (w w' : World) : Prop where
 os : w'.os = w.os
 tape : w'.tape = w.tape
 output : w'.output = w.output
 size : w.heap.size ≤ w'.heap.size
 block : ∀ k, k < w.heap.size → k ≠ tb → w'.heap[k]? = w.heap[k]?
theorem Turn.refl (tb : Nat) (w : World) : Turn tb w w := ⟨rfl, rfl, rfl, Nat.le_refl _, fun _ _ _ => rfl⟩
theorem Turn.trans {tb : Nat} {a b c : World} (h : Turn tb a b) (k : Turn tb b c) : Turn tb a c :=
 ⟨k.os.trans h.os, k.tape.trans h.tape, k.output.trans h.output, Nat.le_trans h.size k.size, fun i hi hn => (k.block i (by have := h.size; omega) hn).trans (h.block i hi hn)⟩
theorem Turn.of {tb : Nat} {w w' : World} (h : Below w.heap.size w w') : Turn tb w w' := ⟨h.os, h.tape, h.output, h.size, fun k hk _ => h.block k hk⟩
theorem Turn.below {tb B : Nat} {w w' : World} (h : Turn tb w w') (hB : B ≤ tb) (hs : tb < w.heap.size) : Below B w w' := ⟨h.os, h.tape, h.output, h.size, fun k hk => h.block k (by omega) (by omega)⟩
theorem TpIn.lt {w : World} {tb : Nat} {sp : Option Addr} {n cap : Nat} {l : List Int} {k : Nat} (h : TpIn w tb sp n cap l k) : tb < w.heap.size := (Array.getElem?_eq_some_iff.1 h.row).1
theorem TpIn.ofB {w w' : World} {tb B : Nat} {sp : Option Addr} {n cap : Nat} {l : List Int} {k : Nat} (h : TpIn w tb sp n cap l k) (hb : Below B w w') (hB : tb < B) : TpIn w' tb sp n cap l k :=
 ⟨(hb.block tb hB).trans h.row, h.len, fun hn => by
   obtain ⟨b, off, e, hlt, hc, hr⟩ := h.cells hn
   exact ⟨b, off, e, hlt, hc, fun i v hi => (hb.cell (p := ⟨b, off + i, none⟩) (Nat.lt_trans hlt hB)).trans (hr i v hi)⟩, h.wide, h.short⟩
theorem TpIn.of {w w' : World} {tb : Nat} {sp : Option Addr} {n cap : Nat} {l : List Int} {k : Nat} (h : TpIn w tb sp n cap l k) (hb : Below w.heap.size w w') : TpIn w' tb sp n cap l k := h.ofB hb h.lt
def Tp (w : World) (tb : Nat) (q : Nat) : Prop := ∃ sp n cap l k, TpIn w tb sp n cap l k ∧ k + q ≤ 1000000
theorem Tp.of {w w' : World} {tb q : Nat} (h : Tp w tb q) (hb : Below w.heap.size w w') : Tp w' tb q := by
 obtain ⟨sp, n, cap, l, k, h, hq⟩ := h
 exact ⟨sp, n, cap, l, k, h.of hb, hq⟩
theorem Tp.ofB {w w' : World} {tb q B : Nat} (h : Tp w tb q) (hb : Below B w w') (hB : tb < B) : Tp w' tb q := by
 obtain ⟨sp, n, cap, l, k, h, hq⟩ := h
 exact ⟨sp, n, cap, l, k, h.ofB hb hB, hq⟩
theorem Tp.le {w : World} {tb q q' : Nat} (h : Tp w tb q) (hq' : q' ≤ q) : Tp w tb q' := by
 obtain ⟨sp, n, cap, l, k, h, hq⟩ := h
 exact ⟨sp, n, cap, l, k, h, by omega⟩
theorem Tp.lt {w : World} {tb q : Nat} (h : Tp w tb q) : tb < w.heap.size := by
 obtain ⟨sp, n, cap, l, k, h, hq⟩ := h
 exact h.lt
theorem TpIn.slice {w : World} {tb : Nat} {sp : Option Addr} {n cap : Nat} {l : List Int} {k : Nat} (h : TpIn w tb sp n cap l k) : w.cell? ⟨tb, 0, none⟩ = some (.slice sp n cap) := by rw [cell_of_row w tb 0 _ _ _ h.row]; rfl
theorem TpIn.at {w : World} {tb : Nat} {sp : Option Addr} {n cap : Nat} {l : List Int} {k : Nat} (h : TpIn w tb sp n cap l k) : w.cell? ⟨tb, 1, none⟩ = some (.int .i64 k) := by rw [cell_of_row w tb 1 _ _ _ h.row]; rfl
theorem TpIn.get {w : World} {tb : Nat} {b off : Nat} {n cap : Nat} {l : List Int} {k : Nat} (h : TpIn w tb (some ⟨b, off, none⟩) n cap l k) {i : Nat} {v : Int} (hi : l[i]? = some v) : b ≠ tb ∧ w.cell? ⟨b, off + i, none⟩ = some (.int .i64 v) := by
 have hl := (List.getElem?_eq_some_iff.1 hi).1
 obtain ⟨b', o', e, hne, _, hr⟩ := h.cells (by have := h.len; omega)
 injection e with e; injection e with e1 e2; subst e1 e2
 exact ⟨by omega, hr i v hi⟩
theorem TpIn.tick {w : World} {tb : Nat} {sp : Option Addr} {n cap : Nat} {l : List Int} {k : Nat} (h : TpIn w tb sp n cap l k) : TpIn (w.setCell ⟨tb, 1, none⟩ (.int .i64 ((k : Int) + 1))) tb sp n cap l (k + 1) :=
 ⟨by rw [heap_setCell_same w tb 1 _ _ _ h.row]; rfl, h.len, fun hn => by
  obtain ⟨b, off, e, hlt, hc, hr⟩ := h.cells hn
  exact ⟨b, off, e, hlt, hc, fun i v hi => (World.cell?_of_block (a := ⟨b, off + i, none⟩) (heap_setCell_other w ⟨tb, 1, none⟩ b _ (by show b ≠ tb; omega))).trans (hr i v hi)⟩, h.wide, h.short⟩
theorem Turn.tick (tb i : Nat) (w : World) (u : Value) : Turn tb w (w.setCell ⟨tb, i, none⟩ u) := ⟨rfl, rfl, rfl, by simp [World.setCell], fun k _ hne => heap_setCell_other w ⟨tb, i, none⟩ k _ hne⟩
theorem next_val (x : Int) (m : Nat) (hm : 1 ≤ m) (hm2 : m ≤ 1000000) (h1 : x < m) (h2 : -(m : Int) < x) : ∃ r : Nat, (wrap64 (x + m)).tmod m = r ∧ r < m := by
 have h3 : wrap64 (x + m) = x + m := by unfold wrap64; omega
 rw [h3, Int.tmod_eq_emod_of_nonneg (by omega)]
 have h4 := Int.emod_nonneg (x + m) (b := (m : Int)) (by omega)
 have h5 := Int.emod_lt_of_pos (x + m) (b := (m : Int)) (by omega)
 exact ⟨((x + m) % m).toNat, by omega, by omega⟩
theorem next_any (tb m q : Nat) (w : World) (ht : Tp w tb (q + 1)) (hm : 1 ≤ m) (hm2 : m ≤ 1000000) :
 Calls Tryz.prog 28 #[.pointer (some ⟨tb, 0, none⟩), .int .i64 m] w fun e w' => ∃ r : Nat, e = .returned (.int .i64 r) ∧ r < m ∧ Tp w' tb q ∧ Turn tb w w' := by
 obtain ⟨sp, n, cap, l, k, hin, hq⟩ := ht
 have h0 := hin.slice
 have h1 := hin.at
 have HIN := zh hin
 have hm1 : decide ((m : Int) < 1) = false := by simp; omega
 have hmz : ((m : Int) == 0) = false := by simp; omega
 clear hin
 go_enter Tryz.func28, Tryz.ntmps28
 have HDR := zh (show TpIn w.drew tb sp n cap l k ∧ Turn tb w w.drew from ⟨HIN.out.of ((Below.refl w.heap.size w).drew), Turn.of ((Below.refl w.heap.size w).drew)⟩)
 have HDR := zh (show TpIn w.drew tb sp n cap l k ∧ Turn tb w w.drew from ⟨HIN.out.of ((Below.refl w.heap.size w).drew), Turn.of ((Below.refl w.heap.size w).drew)⟩)
 have HDR := zh (show TpIn w.drew tb sp n cap l k ∧ Turn tb w w.drew from ⟨HIN.out.of ((Below.refl w.heap.size w).drew), Turn.of ((Below.refl w.heap.size w).drew)⟩)
 have HDR := zh (show TpIn w.drew tb sp n cap l k ∧ Turn tb w w.drew from ⟨HIN.out.of ((Below.refl w.heap.size w).drew), Turn.of ((Below.refl w.heap.size w).drew)⟩)
 have HDR := zh (show TpIn w.drew tb sp n cap l k ∧ Turn tb w w.drew from ⟨HIN.out.of ((Below.refl w.heap.size w).drew), Turn.of ((Below.refl w.heap.size w).drew)⟩)
 by_cases hk : k < n
 ·have hd : decide ((k : Int) < (n : Int)) = true := by simp; omega
  obtain ⟨v, hv⟩ : ∃ v, l[k]? = some v := ⟨l[k]'(by have := HIN.out.len; omega), List.getElem?_eq_getElem _⟩
  have HV := zh hv
  have HWD := zh (HIN.out.wide v (List.mem_of_getElem? hv))
  obtain ⟨b, off, rfl, hne, hcap, -⟩ := HIN.out.cells (by omega)
  have p1 : (0 : Int) ≤ (k : Int) := by omega
  have p2 : (k : Int) < (n : Int) := by omega
  clear hv
  go_wp2_with fail
  refine wp_region_held_drew (S := fun w' => TpIn w' tb (some ⟨b, off, none⟩) n cap l k ∧ Turn tb w w') (by kernel_rfl) HDR.out (fun hHeld => ?_)
  refine zv 0 rfl ?_
  refine zv 1 rfl ?_
  refine zv 2 rfl ?_
  refine zx 3 rfl (v := ?_) ?_ ?_; rotate_left
  ·intro w' hSw; have h2 := hSw.1.at; go_simp; try with_reducible rfl
  refine zv 4 rfl ?_
  refine zv 5 rfl ?_
  refine zv 6 rfl ?_
  refine zx 7 rfl (v := ?_) ?_ ?_; rotate_left
  ·intro w' hSw; have h2 := hSw.1.slice; go_simp; try with_reducible rfl
  refine zv 8 rfl ?_
  refine zv 9 rfl ?_
  refine zd ?_ _
  clear hHeld
  have HT1 := zh HDR.out.1
  have HU1 := zh HDR.out.2
  generalize World.drew w = w1 at HT1 HU1 ⊢
  go_wp2_with fail
  refine wp_region_held_drew (S := fun w' => TpIn w' tb (some ⟨b, off, none⟩) n cap l k ∧ Turn tb w w') (by kernel_rfl) ⟨HT1.out.of ((Below.refl w1.heap.size w1).drew), HU1.out.trans (Turn.of ((Below.refl w1.heap.size w1).drew))⟩ (fun hHeld => ?_)
  refine zv 0 rfl ?_
  refine zv 1 rfl ?_
  refine zv 2 rfl ?_
  refine zx 3 rfl (v := ?_) ?_ ?_; rotate_left
  ·intro w' hSw; have h2 := hSw.1.slice; go_simp; try with_reducible rfl
  refine zv 4 rfl ?_
  refine zv 5 rfl ?_
  refine zv 6 rfl ?_
  refine zx 7 rfl (v := ?_) ?_ ?_; rotate_left
  ·intro w' hSw; have h2 := hSw.1.at; go_simp; try with_reducible rfl
  refine zv 8 rfl ?_
  refine zx 9 rfl (v := ?_) ?_ ?_; rotate_left
  ·intro w' hSw; have h2 := (hSw.1.get HV.out).2; go_simp; try with_reducible rfl
  refine zv 10 rfl ?_
  refine zd ?_ _
  clear hHeld
  have HT2 := zh (HT1.out.of ((Below.refl w1.heap.size w1).drew))
  have HU2 := zh (HU1.out.trans (Turn.of ((Below.refl w1.heap.size w1).drew)))
  generalize World.drew w1 = w2 at HT2 HU2 ⊢
  have h5 := HT2.out.at
  have hf5 : w2.frozen? ⟨tb, 1, none⟩ = false := by simp [World.frozen?, HT2.out.row]
  have HR := zh (next_val (v.tmod m) m hm hm2 (Int.tmod_lt_of_pos v (by omega)) (Int.lt_tmod_of_pos v (by omega)))
  go_wp2_with fail
  obtain ⟨r, hr, hrm⟩ := HR.out
  go_ret
  exact ⟨r, by show Ending.returned (.int .i64 ((wrap64 (v.tmod m + m)).tmod m)) = _; rw [hr], hrm, ⟨_, n, cap, l, k + 1, HT2.out.tick, by omega⟩, HU2.out.trans (Turn.tick _ _ _ _)⟩
 ·have hd : decide ((k : Int) < (n : Int)) = false := by simp; omega
  go_wp2_with fail
  refine wp_region_held_drew (S := fun w' => TpIn w' tb sp n cap l k ∧ Turn tb w w') (by kernel_rfl) HDR.out (fun hHeld => ?_)
  refine zv 0 rfl ?_
  refine zv 1 rfl ?_
  refine zv 2 rfl ?_
  refine zx 3 rfl (v := ?_) ?_ ?_; rotate_left
  ·intro w' hSw; have h2 := hSw.1.at; go_simp; try with_reducible rfl
  refine zv 4 rfl ?_
  refine zv 5 rfl ?_
  refine zv 6 rfl ?_
  refine zx 7 rfl (v := ?_) ?_ ?_; rotate_left
  ·intro w' hSw; have h2 := hSw.1.slice; go_simp; try with_reducible rfl
  refine zv 8 rfl ?_
  refine zv 9 rfl ?_
  refine zd ?_ _
  clear hHeld
  have HT2 := zh HDR.out.1
  have HU2 := zh HDR.out.2
  generalize World.drew w = w2 at HT2 HU2 ⊢
  have h5 := HT2.out.at
  have hf5 : w2.frozen? ⟨tb, 1, none⟩ = false := by simp [World.frozen?, HT2.out.row]
  have HR := zh (next_val (((k : Int) * 7 + 3) % m) m hm hm2 (Int.emod_lt_of_pos _ (by omega)) (by have := Int.emod_nonneg ((k : Int) * 7 + 3) (b := (m : Int)) (by omega); omega))
  go_wp2_with fail
  obtain ⟨r, hr, hrm⟩ := HR.out
  go_ret
  exact ⟨r, by show Ending.returned (.int .i64 ((wrap64 (((k : Int) * 7 + 3) % m + m)).tmod m)) = _; rw [hr], hrm, ⟨_, n, cap, l, k + 1, HT2.out.tick, by omega⟩, HU2.out.trans (Turn.tick _ _ _ _)⟩
theorem Turn.cell {tb b o : Nat} {w w' : World} (h : Turn tb w w') (hb : b < w.heap.size) (hne : b ≠ tb) : w'.cell? ⟨b, o, none⟩ = w.cell? ⟨b, o, none⟩ := World.cell?_of_block (a := ⟨b, o, none⟩) (h.block b hb hne)
theorem pick_any (tb q b n : Nat) (ls : List ByteArray) (w : World) (ht : Tp w tb (q + 1)) (hn : ls.length = n) (hn1 : 1 ≤ n) (hn2 : n ≤ 1000000) (hb : b < w.heap.size) (hne : b ≠ tb)
 (hp : ∀ i s, ls[i]? = some s → w.cell? ⟨b, i, none⟩ = some (.string s)) :
 Calls Tryz.prog 27 #[.pointer (some ⟨tb, 0, none⟩), .slice (some ⟨b, 0, none⟩) n n] w fun e w' => ∃ s ∈ ls, e = .returned (.string s) ∧ Tp w' tb q ∧ Turn tb w w' := by
 have HT := zh ht; have HP := zh hp; have HN := zh hn
 clear ht hp hn
 go_enter Tryz.func27, Tryz.ntmps27
 go_wp2_with fail
 refine (next_any tb n q w HT.out hn1 hn2).mono ?_
 rintro e w1 ⟨r, rfl, hr, ht1, hu1⟩
 have HT1 := zh ht1; have HU1 := zh hu1; clear ht1 hu1
 obtain ⟨s, hs⟩ : ∃ s, ls[r]? = some s := ⟨ls[r]'(by have := HN.out; omega), List.getElem?_eq_getElem _⟩
 have h1 : w1.cell? ⟨b, r, none⟩ = some (.string s) := (HU1.out.cell hb hne).trans (HP.out r s hs)
 have h2 : w1.cell? ⟨b, 0 + r, none⟩ = some (.string s) := by rw [Nat.zero_add]; exact h1
 have HS := zh (List.mem_of_getElem? hs)
 have p1 : (0 : Int) ≤ (r : Int) := by omega
 have p2 : (r : Int) < (n : Int) := by omega
 clear hs
 go_wp2_with fail
 go_ret
 exact ⟨s, HS.out, rfl, HT1.out, HU1.out⟩
theorem strs_alloc (ls : List ByteArray) (w : World) (t : TypeId) (i : Nat) (s : ByteArray) (h : ls[i]? = some s) : (w.alloc (.cells (ls.map Value.string).toArray t)).cell? ⟨w.heap.size, i, none⟩ = some (.string s) := by
 rw [cell_of_row _ w.heap.size i _ _ _ (heap_alloc_new w _)]
 simp [h]
theorem pick_new (tb q n : Nat) (ls : List ByteArray) (w : World) (ht : Tp w tb (q + 1)) (hn : ls.length = n) (hn1 : 1 ≤ n) (hn2 : n ≤ 1000000) :
 Calls Tryz.prog 27 #[.pointer (some ⟨tb, 0, none⟩), .slice (some ⟨w.heap.size, 0, none⟩) n n] (w.alloc (.cells (ls.map Value.string).toArray 9)) fun e w' => ∃ s ∈ ls, e = .returned (.string s) ∧ Tp w' tb q ∧ Turn tb w w' := by
 have hb : Below w.heap.size w (w.alloc (.cells (ls.map Value.string).toArray 9)) := (Below.refl _ _).alloc (Nat.le_refl _) _
 have hlt := ht.lt
 refine (pick_any tb q w.heap.size n ls _ (ht.of hb) hn hn1 hn2 (Array.getElem?_eq_some_iff.1 (heap_alloc_new w _)).1 (by omega) (strs_alloc ls w _)).mono ?_
 rintro e w' ⟨s, hs, he, h1, h2⟩
 exact ⟨s, hs, he, h1, (Turn.of hb).trans h2⟩
theorem results_row1 {P : Program} {fn : Func} {p : Tmp} {ty : TypeId} (h : fn.results = #[.cell p ty]) (tmps : Array Value) (w : World) (g : Nat) (t : TypeId) (cs : Array Value) (fr : Nat × Nat) (d : TypeDesc)
 (hp : tmps.getD p undef = .pointer (some ⟨g, 0, none⟩)) (hg : w.heap[g]? = some (.cells cs t fr))
 (hu : P.underlying ty = some d) (hd : (match d with | .struct _ | .array _ _ => true | _ => false) = true) (hi : (P.info? ty).map (·.size) = some cs.size) :
 (results fn tmps).run P w = .ok (.agg cs) w := by
 have hp' : tmps[p]?.getD undef = .pointer (some ⟨g, 0, none⟩) := by simpa using hp
 simp [results, h, hp', asAddr, run_loadVar_row w g t ty cs fr d hg hu hd hi]
end Go.Proofs.YtecllfbadciaoaaGreatDoor
namespace Go.Proofs.YtecllfbadciaoaaGreatDoor
open Go
def zed : List Int := List.replicate 32 0
def pls (a b : ByteArray) : Bool := Op.bytesLess a.toList b.toList
theorem pls_iff (a b : ByteArray) : pls a b = true ↔ a.toList < b.toList := by unfold pls; rw [bytesLess_eq]; simp
theorem toList_inj {a b : ByteArray} (h : a.toList = b.toList) : a = b := by
 cases a with | mk a => cases b with | mk b =>
  rw [Lib.toList_data, Lib.toList_data] at h
  exact congrArg _ (Array.toList_inj.1 h)
theorem pls_irrefl (a : ByteArray) : pls a a = false := by
 rw [Bool.eq_false_iff]; intro h; exact List.lt_irrefl _ ((pls_iff a a).1 h)
theorem pls_trans {a b c : ByteArray} (h : pls a b = true) (k : pls b c = true) : pls a c = true :=
 (pls_iff a c).2 (List.lt_trans ((pls_iff a b).1 h) ((pls_iff b c).1 k))
theorem pls_asymm {a b : ByteArray} (h : pls a b = true) : pls b a = false := by
 rw [Bool.eq_false_iff]; intro k; exact absurd (pls_trans h k) (by rw [pls_irrefl]; simp)
theorem pls_tri {a b : ByteArray} (h : pls a b = false) (k : pls b a = false) : a = b := by
 refine toList_inj (List.le_antisymm ?_ ?_)
 ·exact fun hh => absurd ((pls_iff b a).2 hh) (by rw [k]; simp)
 ·exact fun hh => absurd ((pls_iff a b).2 hh) (by rw [h]; simp)
theorem pls_ne {a b : ByteArray} (h : pls a b = true) : a ≠ b := fun e => by rw [e, pls_irrefl] at h; cases h
structure En where
 p : ByteArray
 d : List Int
deriving DecidableEq
structure Cg where
 p : ByteArray
 o : List Int
 n : List Int
deriving DecidableEq
section
variable {α : Type} (f : α → ByteArray)
def Srt (l : List α) : Prop := l.Pairwise fun x y => pls (f x) (f y) = true
def upto (l : List α) (k : Nat) : Bool := (List.range k).all fun i => match l[i]?, l[i + 1]? with
 | some x, some y => pls (f x) (f y)
 | _, _ => true
def ascB (l : List α) : Bool := upto f l (l.length - 1)
variable {f}
theorem upto_succ {l : List α} {k : Nat} {x y : α} (hx : l[k]? = some x) (hy : l[k + 1]? = some y) : upto f l (k + 1) = (upto f l k && pls (f x) (f y)) := by
 unfold upto; rw [List.range_succ, List.all_append]; simp [hx, hy]
theorem upto_false {l : List α} {k m : Nat} (h : upto f l k = false) (hm : k ≤ m) : upto f l m = false := by
 unfold upto at h ⊢
 rw [List.all_eq_false] at h ⊢
 obtain ⟨i, hi, hh⟩ := h
 exact ⟨i, by simp at hi ⊢; omega, hh⟩
theorem Srt.tail {x : α} {l : List α} (h : Srt f (x :: l)) : Srt f l := (List.pairwise_cons.1 h).2
theorem Srt.head {x y : α} {l : List α} (h : Srt f (x :: l)) (hy : y ∈ l) : pls (f x) (f y) = true := (List.pairwise_cons.1 h).1 y hy
theorem Srt.one {l : List α} (h : Srt f l) : ∀ {x y : α}, x ∈ l → y ∈ l → f x = f y → x = y := by
 induction l with
 | nil => intro x y hx; cases hx
 | cons z l ih =>
   intro x y hx hy e
   rcases List.mem_cons.1 hx with rfl | hx
   ·rcases List.mem_cons.1 hy with rfl | hy
    ·rfl
    ·exact absurd e (pls_ne (h.head hy))
   ·rcases List.mem_cons.1 hy with e' | hy
    ·exact absurd (by rw [← e', e]) (pls_ne (Srt.head h hx))
    ·exact ih h.tail hx hy e
theorem Srt.ext : ∀ {a b : List α}, Srt f a → Srt f b → (∀ x, x ∈ a ↔ x ∈ b) → a = b
 | [], [], _, _, _ => rfl
 | [], y :: b, _, _, h => absurd ((h y).2 (by simp)) (by simp)
 | x :: a, [], _, _, h => absurd ((h x).1 (by simp)) (by simp)
 | x :: a, y :: b, ha, hb, h => by
   have hx := (h x).1 (by simp)
   have hy := (h y).2 (by simp)
   have e : x = y := by
    rcases List.mem_cons.1 hx with e | hx
    ·exact e
    rcases List.mem_cons.1 hy with e | hy
    ·exact e.symm
    ·have h1 := pls_asymm (Srt.head ha hy); rw [Srt.head hb hx] at h1; cases h1
   subst e
   have : a = b := Srt.ext ha.tail hb.tail fun z => by
    constructor
    ·intro hz
     rcases List.mem_cons.1 ((h z).1 (List.mem_cons_of_mem _ hz)) with e | hz'
     ·subst e; exact absurd rfl (pls_ne (ha.head hz))
     ·exact hz'
    ·intro hz
     rcases List.mem_cons.1 ((h z).2 (List.mem_cons_of_mem _ hz)) with e | hz'
     ·subst e; exact absurd rfl (pls_ne (hb.head hz))
     ·exact hz'
   rw [this]
def ins (f : α → ByteArray) (l : List α) (x : α) : List α := l.takeWhile (fun y => pls (f y) (f x)) ++ x :: l.dropWhile (fun y => pls (f y) (f x))
theorem ins_nil (x : α) : ins f [] x = [x] := rfl
theorem ins_cons (y : α) (l : List α) (x : α) : ins f (y :: l) x = if pls (f y) (f x) then y :: ins f l x else x :: y :: l := by
 unfold ins
 by_cases h : pls (f y) (f x) = true
 ·simp [h]
 ·have h' : pls (f y) (f x) = false := by simpa using h
  simp [h']
theorem mem_ins {l : List α} {x z : α} : z ∈ ins f l x ↔ z = x ∨ z ∈ l := by
 induction l with
 | nil => simp [ins_nil]
 | cons y l ih =>
   rw [ins_cons]
   split
   ·rw [List.mem_cons, ih, List.mem_cons]
    constructor
    ·rintro (h | h | h)
     ·exact .inr (.inl h)
     ·exact .inl h
     ·exact .inr (.inr h)
    ·rintro (h | h | h)
     ·exact .inr (.inl h)
     ·exact .inl h
     ·exact .inr (.inr h)
   ·rw [List.mem_cons]
theorem length_ins (l : List α) (x : α) : (ins f l x).length = l.length + 1 := by
 induction l with
 | nil => rfl
 | cons y l ih => rw [ins_cons]; split <;> simp [ih]
theorem Srt.ins {l : List α} {x : α} (h : Srt f l) (hn : ∀ y ∈ l, f y ≠ f x) : Srt f (ins f l x) := by
 induction l with
 | nil => exact List.pairwise_singleton _ _
 | cons y l ih =>
   rw [ins_cons]
   split
   ·rename_i hy
    refine List.Pairwise.cons (fun z hz => ?_) (ih h.tail fun w hw => hn w (List.mem_cons_of_mem _ hw))
    rcases mem_ins.1 hz with e | hz
    ·subst e; exact hy
    ·exact h.head hz
   ·rename_i hy
    have hy' : pls (f y) (f x) = false := by simpa using hy
    have hxy : pls (f x) (f y) = true := by
     by_cases hh : pls (f x) (f y) = true
     ·exact hh
     ·exact absurd (pls_tri hy' (by simpa using hh)) (hn y (by simp))
    refine List.Pairwise.cons (fun z hz => ?_) h
    rcases List.mem_cons.1 hz with e | hz
    ·subst e; exact hxy
    ·exact pls_trans hxy (h.head hz)
end
/-! ### two lists of changes side by side -/
def kp (p : ByteArray) (d : List Int) : Cg := ⟨p, d, d⟩
def Side (a b : List Cg) (q : Cg × Cg) : Prop := (q.1 ∈ a ∧ q.2 ∈ b ∧ q.1.p = q.2.p) ∨ (q.1 ∈ a ∧ (∀ z ∈ b, z.p ≠ q.1.p) ∧ q.2 = kp q.1.p q.1.n) ∨ (q.2 ∈ b ∧ (∀ z ∈ a, z.p ≠ q.2.p) ∧ q.1 = kp q.2.p q.2.o)
theorem Side.same {a b : List Cg} {q : Cg × Cg} (h : Side a b q) : q.1.p = q.2.p := by
 rcases h with ⟨_, _, h⟩ | ⟨_, _, h⟩ | ⟨_, _, h⟩
 ·exact h
 ·rw [h]; rfl
 ·rw [h]; rfl
def fd (l : List Cg) (p : ByteArray) : Option Cg := l.find? fun x => decide (x.p = p)
end Go.Proofs.YtecllfbadciaoaaGreatDoor
