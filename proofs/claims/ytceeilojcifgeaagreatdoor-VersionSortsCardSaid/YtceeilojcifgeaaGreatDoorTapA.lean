/-
  The tape of the statements: what holds of it, and the walk of Next.
-/
import Derived.Test.YtceeilojcifgeaaGreatDoorChecked
import Derived.WalkKit
import Derived.Below
import Derived.Lib.Hide
import Derived.Lib.AppendStr
import Derived.Deep.OwnRows
import Derived.Deep.LoopGhost
import Derived.OwnWalk
import Derived.IntWalk
import Derived.Deep.RegionHeld3
namespace Go.Proofs.YtceeilojcifgeaaGreatDoor
open Go.RowKit

/-- a tape in block tb: its list, and how many numbers were drawn -/
structure TpIn (w : World) (tb : Nat) (sp : Option Addr) (n cap : Nat) (l : List Int) (k : Nat) : Prop where
  row : w.heap[tb]? = some (.cells #[.slice sp n cap, .int .i64 k] 39 (0, 0))
  len : l.length = n
  cells : 0 < n → ∃ b off, sp = some ⟨b, off, none⟩ ∧ b < tb ∧ n ≤ cap ∧ ∀ i v, l[i]? = some v → w.cell? ⟨b, off + i, none⟩ = some (.int .i64 v)
  wide : ∀ v ∈ l, -9223372036854775808 ≤ v ∧ v ≤ 9223372036854775807
  short : n ≤ 9223372036854775807
/-- all but the tape's block is as it was -/
structure Turn (tb : Nat) (w w' : World) : Prop where
  os : w'.os = w.os
  tape : w'.tape = w.tape
  output : w'.output = w.output
  size : w.heap.size ≤ w'.heap.size
  block : ∀ k, k < w.heap.size → k ≠ tb → w'.heap[k]? = w.heap[k]?
theorem Turn.refl (tb : Nat) (w : World) : Turn tb w w := ⟨rfl, rfl, rfl, Nat.le_refl _, fun _ _ _ => rfl⟩
theorem Turn.trans {tb : Nat} {a b c : World} (h : Turn tb a b) (k : Turn tb b c) : Turn tb a c :=
  ⟨k.os.trans h.os, k.tape.trans h.tape, k.output.trans h.output, Nat.le_trans h.size k.size, fun i hi hn => (k.block i (by have := h.size; omega) hn).trans (h.block i hi hn)⟩
theorem Turn.of {tb : Nat} {w w' : World} (h : Below w.heap.size w w') : Turn tb w w' := ⟨h.os, h.tape, h.output, h.size, fun k hk _ => h.block k hk⟩
theorem Turn.below {tb B : Nat} {w w' : World} (h : Turn tb w w') (hB : B ≤ tb) (hs : tb < w.heap.size) : Below B w w' := ⟨h.os, h.tape, h.output, h.size, fun k hk => h.block k (by omega) (by omega)⟩
theorem TpIn.lt {w : World} {tb : Nat} {sp : Option Addr} {n cap : Nat} {l : List Int} {k : Nat} (h : TpIn w tb sp n cap l k) : tb < w.heap.size := (Array.getElem?_eq_some_iff.1 h.row).1
theorem TpIn.ofB {w w' : World} {tb B : Nat} {sp : Option Addr} {n cap : Nat} {l : List Int} {k : Nat} (h : TpIn w tb sp n cap l k) (hb : Below B w w') (hB : tb < B) : TpIn w' tb sp n cap l k :=
  ⟨(hb.block tb hB).trans h.row, h.len, fun hn => by
    obtain ⟨b, off, e, hlt, hc, hr⟩ := h.cells hn
    exact ⟨b, off, e, hlt, hc, fun i v hi => (hb.cell (p := ⟨b, off + i, none⟩) (Nat.lt_trans hlt hB)).trans (hr i v hi)⟩, h.wide, h.short⟩
theorem TpIn.of {w w' : World} {tb : Nat} {sp : Option Addr} {n cap : Nat} {l : List Int} {k : Nat} (h : TpIn w tb sp n cap l k) (hb : Below w.heap.size w w') : TpIn w' tb sp n cap l k := h.ofB hb h.lt
/-- q more numbers can be drawn -/
def Tp (w : World) (tb : Nat) (q : Nat) : Prop := ∃ sp n cap l k, TpIn w tb sp n cap l k ∧ k + q ≤ 1000000
theorem Tp.of {w w' : World} {tb q : Nat} (h : Tp w tb q) (hb : Below w.heap.size w w') : Tp w' tb q := by
  obtain ⟨sp, n, cap, l, k, h, hq⟩ := h
  exact ⟨sp, n, cap, l, k, h.of hb, hq⟩
theorem Tp.ofB {w w' : World} {tb q B : Nat} (h : Tp w tb q) (hb : Below B w w') (hB : tb < B) : Tp w' tb q := by
  obtain ⟨sp, n, cap, l, k, h, hq⟩ := h
  exact ⟨sp, n, cap, l, k, h.ofB hb hB, hq⟩
theorem Tp.le {w : World} {tb q q' : Nat} (h : Tp w tb q) (hq' : q' ≤ q) : Tp w tb q' := by
  obtain ⟨sp, n, cap, l, k, h, hq⟩ := h
  exact ⟨sp, n, cap, l, k, h, by omega⟩
theorem Tp.lt {w : World} {tb q : Nat} (h : Tp w tb q) : tb < w.heap.size := by
  obtain ⟨sp, n, cap, l, k, h, hq⟩ := h
  exact h.lt
theorem TpIn.slice {w : World} {tb : Nat} {sp : Option Addr} {n cap : Nat} {l : List Int} {k : Nat} (h : TpIn w tb sp n cap l k) : w.cell? ⟨tb, 0, none⟩ = some (.slice sp n cap) := by rw [cell_of_row w tb 0 _ _ _ h.row]; rfl
theorem TpIn.at {w : World} {tb : Nat} {sp : Option Addr} {n cap : Nat} {l : List Int} {k : Nat} (h : TpIn w tb sp n cap l k) : w.cell? ⟨tb, 1, none⟩ = some (.int .i64 k) := by rw [cell_of_row w tb 1 _ _ _ h.row]; rfl
theorem TpIn.get {w : World} {tb : Nat} {b off : Nat} {n cap : Nat} {l : List Int} {k : Nat} (h : TpIn w tb (some ⟨b, off, none⟩) n cap l k) {i : Nat} {v : Int} (hi : l[i]? = some v) : b ≠ tb ∧ w.cell? ⟨b, off + i, none⟩ = some (.int .i64 v) := by
  have hl := (List.getElem?_eq_some_iff.1 hi).1
  obtain ⟨b', o', e, hne, _, hr⟩ := h.cells (by have := h.len; omega)
  injection e with e; injection e with e1 e2; subst e1 e2
  exact ⟨by omega, hr i v hi⟩

theorem TpIn.tick {w : World} {tb : Nat} {sp : Option Addr} {n cap : Nat} {l : List Int} {k : Nat} (h : TpIn w tb sp n cap l k) : TpIn (w.setCell ⟨tb, 1, none⟩ (.int .i64 ((k : Int) + 1))) tb sp n cap l (k + 1) :=
  ⟨by rw [heap_setCell_same w tb 1 _ _ _ h.row]; rfl, h.len, fun hn => by
    obtain ⟨b, off, e, hlt, hc, hr⟩ := h.cells hn
    exact ⟨b, off, e, hlt, hc, fun i v hi => (World.cell?_of_block (a := ⟨b, off + i, none⟩) (heap_setCell_other w ⟨tb, 1, none⟩ b _ (by show b ≠ tb; omega))).trans (hr i v hi)⟩, h.wide, h.short⟩
theorem Turn.tick (tb i : Nat) (w : World) (u : Value) : Turn tb w (w.setCell ⟨tb, i, none⟩ u) := ⟨rfl, rfl, rfl, by simp [World.setCell], fun k _ hne => heap_setCell_other w ⟨tb, i, none⟩ k _ hne⟩
theorem next_val (x : Int) (m : Nat) (hm : 1 ≤ m) (hm2 : m ≤ 1000000) (h1 : x < m) (h2 : -(m : Int) < x) : ∃ r : Nat, (wrap64 (x + m)).tmod m = r ∧ r < m := by
  have h3 : wrap64 (x + m) = x + m := by unfold wrap64; omega
  rw [h3, Int.tmod_eq_emod_of_nonneg (by omega)]
  have h4 := Int.emod_nonneg (x + m) (b := (m : Int)) (by omega)
  have h5 := Int.emod_lt_of_pos (x + m) (b := (m : Int)) (by omega)
  exact ⟨((x + m) % m).toNat, by omega, by omega⟩

set_option maxRecDepth 100000 in
set_option maxHeartbeats 1000000 in
theorem next_any (tb m q : Nat) (w : World) (ht : Tp w tb (q + 1)) (hm : 1 ≤ m) (hm2 : m ≤ 1000000) :
    Calls Tryz.prog 14 #[.pointer (some ⟨tb, 0, none⟩), .int .i64 m] w fun e w' => ∃ r : Nat, e = .returned (.int .i64 r) ∧ r < m ∧ Tp w' tb q ∧ Turn tb w w' := by
  obtain ⟨sp, n, cap, l, k, hin, hq⟩ := ht
  have h0 := hin.slice
  have h1 := hin.at
  have HIN := Lib.hid hin
  have hm1 : decide ((m : Int) < 1) = false := by simp; omega
  have hmz : ((m : Int) == 0) = false := by simp; omega
  clear hin
  go_enter Tryz.func14, Tryz.ntmps14
  have HDR := Lib.hid (show TpIn w.drew tb sp n cap l k ∧ Turn tb w w.drew from ⟨HIN.out.of ((Below.refl w.heap.size w).drew), Turn.of ((Below.refl w.heap.size w).drew)⟩)
  have HDR := Lib.hid (show TpIn w.drew tb sp n cap l k ∧ Turn tb w w.drew from ⟨HIN.out.of ((Below.refl w.heap.size w).drew), Turn.of ((Below.refl w.heap.size w).drew)⟩)
  have HDR := Lib.hid (show TpIn w.drew tb sp n cap l k ∧ Turn tb w w.drew from ⟨HIN.out.of ((Below.refl w.heap.size w).drew), Turn.of ((Below.refl w.heap.size w).drew)⟩)
  have HDR := Lib.hid (show TpIn w.drew tb sp n cap l k ∧ Turn tb w w.drew from ⟨HIN.out.of ((Below.refl w.heap.size w).drew), Turn.of ((Below.refl w.heap.size w).drew)⟩)
  have HDR := Lib.hid (show TpIn w.drew tb sp n cap l k ∧ Turn tb w w.drew from ⟨HIN.out.of ((Below.refl w.heap.size w).drew), Turn.of ((Below.refl w.heap.size w).drew)⟩)
  by_cases hk : k < n
  · have hd : decide ((k : Int) < (n : Int)) = true := by simp; omega
    obtain ⟨v, hv⟩ : ∃ v, l[k]? = some v := ⟨l[k]'(by have := HIN.out.len; omega), List.getElem?_eq_getElem _⟩
    have HV := Lib.hid hv
    have HWD := Lib.hid (HIN.out.wide v (List.mem_of_getElem? hv))
    obtain ⟨b, off, rfl, hne, hcap, -⟩ := HIN.out.cells (by omega)
    have p1 : (0 : Int) ≤ (k : Int) := by omega
    have p2 : (k : Int) < (n : Int) := by omega
    clear hv
    go_wp2_with fail
    refine wp_region_held_drew (S := fun w' => TpIn w' tb (some ⟨b, off, none⟩) n cap l k ∧ Turn tb w w') (by kernel_rfl) HDR.out (fun hHeld => ?_)
    refine wpAnyH_take (i := 0) (oi := _) (v := ?v0n12) rfl (by kernel_rfl) (by kernel_rfl) (by kernel_rfl) (fun _ _ _ h => h) (Or.inl ⟨by rfl, ?hy0n12⟩) (by assumption) ?rest0n12
    case hy0n12 =>
      intro w' hSw
      go_simp
      try with_reducible rfl
    try simp only [Act.put, List.getElem_toArray, List.getElem_cons_succ, List.getElem_cons_zero, List.setIfInBounds_toArray, List.set_cons_zero, List.set_cons_succ]
    refine wpAnyH_take (i := 1) (oi := _) (v := ?v1n13) rfl (by kernel_rfl) (by kernel_rfl) (by kernel_rfl) (fun _ _ _ h => h) (Or.inl ⟨by rfl, ?hy1n13⟩) (by assumption) ?rest1n13
    case hy1n13 =>
      intro w' hSw
      go_simp
      try with_reducible rfl
    try simp only [Act.put, List.getElem_toArray, List.getElem_cons_succ, List.getElem_cons_zero, List.setIfInBounds_toArray, List.set_cons_zero, List.set_cons_succ]
    refine wpAnyH_take (i := 2) (oi := _) (v := ?v2n14) rfl (by kernel_rfl) (by kernel_rfl) (by kernel_rfl) (fun _ _ _ h => h) (Or.inl ⟨by rfl, ?hy2n14⟩) (by assumption) ?rest2n14
    case hy2n14 =>
      intro w' hSw
      go_simp
      try with_reducible rfl
    try simp only [Act.put, List.getElem_toArray, List.getElem_cons_succ, List.getElem_cons_zero, List.setIfInBounds_toArray, List.set_cons_zero, List.set_cons_succ]
    refine wpAnyH_take (i := 3) (oi := _) (v := ?v3n15) rfl (by kernel_rfl) (by kernel_rfl) (by kernel_rfl) (fun _ _ _ h => h) (Or.inl ⟨by rfl, ?hy3n15⟩) (by assumption) ?rest3n15
    case hy3n15 =>
      intro w' hSw
      have h2 := hSw.1.at
      go_simp
      try with_reducible rfl
    try simp only [Act.put, List.getElem_toArray, List.getElem_cons_succ, List.getElem_cons_zero, List.setIfInBounds_toArray, List.set_cons_zero, List.set_cons_succ]
    refine wpAnyH_take (i := 4) (oi := _) (v := ?v4n16) rfl (by kernel_rfl) (by kernel_rfl) (by kernel_rfl) (fun _ _ _ h => h) (Or.inl ⟨by rfl, ?hy4n16⟩) (by assumption) ?rest4n16
    case hy4n16 =>
      intro w' hSw
      go_simp
      try with_reducible rfl
    try simp only [Act.put, List.getElem_toArray, List.getElem_cons_succ, List.getElem_cons_zero, List.setIfInBounds_toArray, List.set_cons_zero, List.set_cons_succ]
    refine wpAnyH_take (i := 5) (oi := _) (v := ?v5n17) rfl (by kernel_rfl) (by kernel_rfl) (by kernel_rfl) (fun _ _ _ h => h) (Or.inl ⟨by rfl, ?hy5n17⟩) (by assumption) ?rest5n17
    case hy5n17 =>
      intro w' hSw
      go_simp
      try with_reducible rfl
    try simp only [Act.put, List.getElem_toArray, List.getElem_cons_succ, List.getElem_cons_zero, List.setIfInBounds_toArray, List.set_cons_zero, List.set_cons_succ]
    refine wpAnyH_take (i := 6) (oi := _) (v := ?v6n18) rfl (by kernel_rfl) (by kernel_rfl) (by kernel_rfl) (fun _ _ _ h => h) (Or.inl ⟨by rfl, ?hy6n18⟩) (by assumption) ?rest6n18
    case hy6n18 =>
      intro w' hSw
      go_simp
      try with_reducible rfl
    try simp only [Act.put, List.getElem_toArray, List.getElem_cons_succ, List.getElem_cons_zero, List.setIfInBounds_toArray, List.set_cons_zero, List.set_cons_succ]
    refine wpAnyH_take (i := 7) (oi := _) (v := ?v7n19) rfl (by kernel_rfl) (by kernel_rfl) (by kernel_rfl) (fun _ _ _ h => h) (Or.inl ⟨by rfl, ?hy7n19⟩) (by assumption) ?rest7n19
    case hy7n19 =>
      intro w' hSw
      have h2 := hSw.1.slice
      go_simp
      try with_reducible rfl
    try simp only [Act.put, List.getElem_toArray, List.getElem_cons_succ, List.getElem_cons_zero, List.setIfInBounds_toArray, List.set_cons_zero, List.set_cons_succ]
    refine wpAnyH_take (i := 8) (oi := _) (v := ?v8n20) rfl (by kernel_rfl) (by kernel_rfl) (by kernel_rfl) (fun _ _ _ h => h) (Or.inl ⟨by rfl, ?hy8n20⟩) (by assumption) ?rest8n20
    case hy8n20 =>
      intro w' hSw
      go_simp
      try with_reducible rfl
    try simp only [Act.put, List.getElem_toArray, List.getElem_cons_succ, List.getElem_cons_zero, List.setIfInBounds_toArray, List.set_cons_zero, List.set_cons_succ]
    refine wpAnyH_take (i := 9) (oi := _) (v := ?v9n21) rfl (by kernel_rfl) (by kernel_rfl) (by kernel_rfl) (fun _ _ _ h => h) (Or.inl ⟨by rfl, ?hy9n21⟩) (by assumption) ?rest9n21
    case hy9n21 =>
      intro w' hSw
      go_simp
      try with_reducible rfl
    try simp only [Act.put, List.getElem_toArray, List.getElem_cons_succ, List.getElem_cons_zero, List.setIfInBounds_toArray, List.set_cons_zero, List.set_cons_succ]
    refine wpAnyH_done (by kernel_rfl) ?_ _
    clear hHeld
    have HT1 := Lib.hid HDR.out.1
    have HU1 := Lib.hid HDR.out.2
    generalize World.drew w = w1 at HT1 HU1 ⊢
    go_wp2_with fail
    refine wp_region_held_drew (S := fun w' => TpIn w' tb (some ⟨b, off, none⟩) n cap l k ∧ Turn tb w w') (by kernel_rfl) ⟨HT1.out.of ((Below.refl w1.heap.size w1).drew), HU1.out.trans (Turn.of ((Below.refl w1.heap.size w1).drew))⟩ (fun hHeld => ?_)
    refine wpAnyH_take (i := 0) (oi := _) (v := ?v0n1) rfl (by kernel_rfl) (by kernel_rfl) (by kernel_rfl) (fun _ _ _ h => h) (Or.inl ⟨by rfl, ?hy0n1⟩) (by assumption) ?rest0n1
    case hy0n1 =>
      intro w' hSw
      go_simp
      try with_reducible rfl
    try simp only [Act.put, List.getElem_toArray, List.getElem_cons_succ, List.getElem_cons_zero, List.setIfInBounds_toArray, List.set_cons_zero, List.set_cons_succ]
    refine wpAnyH_take (i := 1) (oi := _) (v := ?v1n2) rfl (by kernel_rfl) (by kernel_rfl) (by kernel_rfl) (fun _ _ _ h => h) (Or.inl ⟨by rfl, ?hy1n2⟩) (by assumption) ?rest1n2
    case hy1n2 =>
      intro w' hSw
      go_simp
      try with_reducible rfl
    try simp only [Act.put, List.getElem_toArray, List.getElem_cons_succ, List.getElem_cons_zero, List.setIfInBounds_toArray, List.set_cons_zero, List.set_cons_succ]
    refine wpAnyH_take (i := 2) (oi := _) (v := ?v2n3) rfl (by kernel_rfl) (by kernel_rfl) (by kernel_rfl) (fun _ _ _ h => h) (Or.inl ⟨by rfl, ?hy2n3⟩) (by assumption) ?rest2n3
    case hy2n3 =>
      intro w' hSw
      go_simp
      try with_reducible rfl
    try simp only [Act.put, List.getElem_toArray, List.getElem_cons_succ, List.getElem_cons_zero, List.setIfInBounds_toArray, List.set_cons_zero, List.set_cons_succ]
    refine wpAnyH_take (i := 3) (oi := _) (v := ?v3n4) rfl (by kernel_rfl) (by kernel_rfl) (by kernel_rfl) (fun _ _ _ h => h) (Or.inl ⟨by rfl, ?hy3n4⟩) (by assumption) ?rest3n4
    case hy3n4 =>
      intro w' hSw
      have h2 := hSw.1.slice
      go_simp
      try with_reducible rfl
    try simp only [Act.put, List.getElem_toArray, List.getElem_cons_succ, List.getElem_cons_zero, List.setIfInBounds_toArray, List.set_cons_zero, List.set_cons_succ]
    refine wpAnyH_take (i := 4) (oi := _) (v := ?v4n5) rfl (by kernel_rfl) (by kernel_rfl) (by kernel_rfl) (fun _ _ _ h => h) (Or.inl ⟨by rfl, ?hy4n5⟩) (by assumption) ?rest4n5
    case hy4n5 =>
      intro w' hSw
      go_simp
      try with_reducible rfl
    try simp only [Act.put, List.getElem_toArray, List.getElem_cons_succ, List.getElem_cons_zero, List.setIfInBounds_toArray, List.set_cons_zero, List.set_cons_succ]
    refine wpAnyH_take (i := 5) (oi := _) (v := ?v5n6) rfl (by kernel_rfl) (by kernel_rfl) (by kernel_rfl) (fun _ _ _ h => h) (Or.inl ⟨by rfl, ?hy5n6⟩) (by assumption) ?rest5n6
    case hy5n6 =>
      intro w' hSw
      go_simp
      try with_reducible rfl
    try simp only [Act.put, List.getElem_toArray, List.getElem_cons_succ, List.getElem_cons_zero, List.setIfInBounds_toArray, List.set_cons_zero, List.set_cons_succ]
    refine wpAnyH_take (i := 6) (oi := _) (v := ?v6n7) rfl (by kernel_rfl) (by kernel_rfl) (by kernel_rfl) (fun _ _ _ h => h) (Or.inl ⟨by rfl, ?hy6n7⟩) (by assumption) ?rest6n7
    case hy6n7 =>
      intro w' hSw
      go_simp
      try with_reducible rfl
    try simp only [Act.put, List.getElem_toArray, List.getElem_cons_succ, List.getElem_cons_zero, List.setIfInBounds_toArray, List.set_cons_zero, List.set_cons_succ]
    refine wpAnyH_take (i := 7) (oi := _) (v := ?v7n8) rfl (by kernel_rfl) (by kernel_rfl) (by kernel_rfl) (fun _ _ _ h => h) (Or.inl ⟨by rfl, ?hy7n8⟩) (by assumption) ?rest7n8
    case hy7n8 =>
      intro w' hSw
      have h2 := hSw.1.at
      go_simp
      try with_reducible rfl
    try simp only [Act.put, List.getElem_toArray, List.getElem_cons_succ, List.getElem_cons_zero, List.setIfInBounds_toArray, List.set_cons_zero, List.set_cons_succ]
    refine wpAnyH_take (i := 8) (oi := _) (v := ?v8n9) rfl (by kernel_rfl) (by kernel_rfl) (by kernel_rfl) (fun _ _ _ h => h) (Or.inl ⟨by rfl, ?hy8n9⟩) (by assumption) ?rest8n9
    case hy8n9 =>
      intro w' hSw
      go_simp
      try with_reducible rfl
    try simp only [Act.put, List.getElem_toArray, List.getElem_cons_succ, List.getElem_cons_zero, List.setIfInBounds_toArray, List.set_cons_zero, List.set_cons_succ]
    refine wpAnyH_take (i := 9) (oi := _) (v := ?v9n10) rfl (by kernel_rfl) (by kernel_rfl) (by kernel_rfl) (fun _ _ _ h => h) (Or.inl ⟨by rfl, ?hy9n10⟩) (by assumption) ?rest9n10
    case hy9n10 =>
      intro w' hSw
      have h2 := (hSw.1.get HV.out).2
      go_simp
      try with_reducible rfl
    try simp only [Act.put, List.getElem_toArray, List.getElem_cons_succ, List.getElem_cons_zero, List.setIfInBounds_toArray, List.set_cons_zero, List.set_cons_succ]
    refine wpAnyH_take (i := 10) (oi := _) (v := ?v10n11) rfl (by kernel_rfl) (by kernel_rfl) (by kernel_rfl) (fun _ _ _ h => h) (Or.inl ⟨by rfl, ?hy10n11⟩) (by assumption) ?rest10n11
    case hy10n11 =>
      intro w' hSw
      go_simp
      try with_reducible rfl
    try simp only [Act.put, List.getElem_toArray, List.getElem_cons_succ, List.getElem_cons_zero, List.setIfInBounds_toArray, List.set_cons_zero, List.set_cons_succ]
    refine wpAnyH_done (by kernel_rfl) ?_ _
    clear hHeld
    have HT2 := Lib.hid (HT1.out.of ((Below.refl w1.heap.size w1).drew))
    have HU2 := Lib.hid (HU1.out.trans (Turn.of ((Below.refl w1.heap.size w1).drew)))
    generalize World.drew w1 = w2 at HT2 HU2 ⊢
    have h5 := HT2.out.at
    have hf5 : w2.frozen? ⟨tb, 1, none⟩ = false := by simp [World.frozen?, HT2.out.row]
    have HR := Lib.hid (next_val (v.tmod m) m hm hm2 (Int.tmod_lt_of_pos v (by omega)) (Int.lt_tmod_of_pos v (by omega)))
    go_wp2_with fail
    obtain ⟨r, hr, hrm⟩ := HR.out
    go_ret
    exact ⟨r, by show Ending.returned (.int .i64 ((wrap64 (v.tmod m + m)).tmod m)) = _; rw [hr], hrm, ⟨_, n, cap, l, k + 1, HT2.out.tick, by omega⟩, HU2.out.trans (Turn.tick _ _ _ _)⟩
  · have hd : decide ((k : Int) < (n : Int)) = false := by simp; omega
    go_wp2_with fail
    refine wp_region_held_drew (S := fun w' => TpIn w' tb sp n cap l k ∧ Turn tb w w') (by kernel_rfl) HDR.out (fun hHeld => ?_)
    refine wpAnyH_take (i := 0) (oi := _) (v := ?v0n22) rfl (by kernel_rfl) (by kernel_rfl) (by kernel_rfl) (fun _ _ _ h => h) (Or.inl ⟨by rfl, ?hy0n22⟩) (by assumption) ?rest0n22
    case hy0n22 =>
      intro w' hSw
      go_simp
      try with_reducible rfl
    try simp only [Act.put, List.getElem_toArray, List.getElem_cons_succ, List.getElem_cons_zero, List.setIfInBounds_toArray, List.set_cons_zero, List.set_cons_succ]
    refine wpAnyH_take (i := 1) (oi := _) (v := ?v1n23) rfl (by kernel_rfl) (by kernel_rfl) (by kernel_rfl) (fun _ _ _ h => h) (Or.inl ⟨by rfl, ?hy1n23⟩) (by assumption) ?rest1n23
    case hy1n23 =>
      intro w' hSw
      go_simp
      try with_reducible rfl
    try simp only [Act.put, List.getElem_toArray, List.getElem_cons_succ, List.getElem_cons_zero, List.setIfInBounds_toArray, List.set_cons_zero, List.set_cons_succ]
    refine wpAnyH_take (i := 2) (oi := _) (v := ?v2n24) rfl (by kernel_rfl) (by kernel_rfl) (by kernel_rfl) (fun _ _ _ h => h) (Or.inl ⟨by rfl, ?hy2n24⟩) (by assumption) ?rest2n24
    case hy2n24 =>
      intro w' hSw
      go_simp
      try with_reducible rfl
    try simp only [Act.put, List.getElem_toArray, List.getElem_cons_succ, List.getElem_cons_zero, List.setIfInBounds_toArray, List.set_cons_zero, List.set_cons_succ]
    refine wpAnyH_take (i := 3) (oi := _) (v := ?v3n25) rfl (by kernel_rfl) (by kernel_rfl) (by kernel_rfl) (fun _ _ _ h => h) (Or.inl ⟨by rfl, ?hy3n25⟩) (by assumption) ?rest3n25
    case hy3n25 =>
      intro w' hSw
      have h2 := hSw.1.at
      go_simp
      try with_reducible rfl
    try simp only [Act.put, List.getElem_toArray, List.getElem_cons_succ, List.getElem_cons_zero, List.setIfInBounds_toArray, List.set_cons_zero, List.set_cons_succ]
    refine wpAnyH_take (i := 4) (oi := _) (v := ?v4n26) rfl (by kernel_rfl) (by kernel_rfl) (by kernel_rfl) (fun _ _ _ h => h) (Or.inl ⟨by rfl, ?hy4n26⟩) (by assumption) ?rest4n26
    case hy4n26 =>
      intro w' hSw
      go_simp
      try with_reducible rfl
    try simp only [Act.put, List.getElem_toArray, List.getElem_cons_succ, List.getElem_cons_zero, List.setIfInBounds_toArray, List.set_cons_zero, List.set_cons_succ]
    refine wpAnyH_take (i := 5) (oi := _) (v := ?v5n27) rfl (by kernel_rfl) (by kernel_rfl) (by kernel_rfl) (fun _ _ _ h => h) (Or.inl ⟨by rfl, ?hy5n27⟩) (by assumption) ?rest5n27
    case hy5n27 =>
      intro w' hSw
      go_simp
      try with_reducible rfl
    try simp only [Act.put, List.getElem_toArray, List.getElem_cons_succ, List.getElem_cons_zero, List.setIfInBounds_toArray, List.set_cons_zero, List.set_cons_succ]
    refine wpAnyH_take (i := 6) (oi := _) (v := ?v6n28) rfl (by kernel_rfl) (by kernel_rfl) (by kernel_rfl) (fun _ _ _ h => h) (Or.inl ⟨by rfl, ?hy6n28⟩) (by assumption) ?rest6n28
    case hy6n28 =>
      intro w' hSw
      go_simp
      try with_reducible rfl
    try simp only [Act.put, List.getElem_toArray, List.getElem_cons_succ, List.getElem_cons_zero, List.setIfInBounds_toArray, List.set_cons_zero, List.set_cons_succ]
    refine wpAnyH_take (i := 7) (oi := _) (v := ?v7n29) rfl (by kernel_rfl) (by kernel_rfl) (by kernel_rfl) (fun _ _ _ h => h) (Or.inl ⟨by rfl, ?hy7n29⟩) (by assumption) ?rest7n29
    case hy7n29 =>
      intro w' hSw
      have h2 := hSw.1.slice
      go_simp
      try with_reducible rfl
    try simp only [Act.put, List.getElem_toArray, List.getElem_cons_succ, List.getElem_cons_zero, List.setIfInBounds_toArray, List.set_cons_zero, List.set_cons_succ]
    refine wpAnyH_take (i := 8) (oi := _) (v := ?v8n30) rfl (by kernel_rfl) (by kernel_rfl) (by kernel_rfl) (fun _ _ _ h => h) (Or.inl ⟨by rfl, ?hy8n30⟩) (by assumption) ?rest8n30
    case hy8n30 =>
      intro w' hSw
      go_simp
      try with_reducible rfl
    try simp only [Act.put, List.getElem_toArray, List.getElem_cons_succ, List.getElem_cons_zero, List.setIfInBounds_toArray, List.set_cons_zero, List.set_cons_succ]
    refine wpAnyH_take (i := 9) (oi := _) (v := ?v9n31) rfl (by kernel_rfl) (by kernel_rfl) (by kernel_rfl) (fun _ _ _ h => h) (Or.inl ⟨by rfl, ?hy9n31⟩) (by assumption) ?rest9n31
    case hy9n31 =>
      intro w' hSw
      go_simp
      try with_reducible rfl
    try simp only [Act.put, List.getElem_toArray, List.getElem_cons_succ, List.getElem_cons_zero, List.setIfInBounds_toArray, List.set_cons_zero, List.set_cons_succ]
    refine wpAnyH_done (by kernel_rfl) ?_ _
    clear hHeld
    have HT2 := Lib.hid HDR.out.1
    have HU2 := Lib.hid HDR.out.2
    generalize World.drew w = w2 at HT2 HU2 ⊢
    have h5 := HT2.out.at
    have hf5 : w2.frozen? ⟨tb, 1, none⟩ = false := by simp [World.frozen?, HT2.out.row]
    have HR := Lib.hid (next_val (((k : Int) * 7 + 3) % m) m hm hm2 (Int.emod_lt_of_pos _ (by omega)) (by have := Int.emod_nonneg ((k : Int) * 7 + 3) (b := (m : Int)) (by omega); omega))
    go_wp2_with fail
    obtain ⟨r, hr, hrm⟩ := HR.out
    go_ret
    exact ⟨r, by show Ending.returned (.int .i64 ((wrap64 (((k : Int) * 7 + 3) % m + m)).tmod m)) = _; rw [hr], hrm, ⟨_, n, cap, l, k + 1, HT2.out.tick, by omega⟩, HU2.out.trans (Turn.tick _ _ _ _)⟩
end Go.Proofs.YtceeilojcifgeaaGreatDoor
