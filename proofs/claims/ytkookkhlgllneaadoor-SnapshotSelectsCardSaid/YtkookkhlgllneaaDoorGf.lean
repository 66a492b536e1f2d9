/-
  The tape of the statements: what holds of it, and the walk of Next.
-/
import Derived.Test.YtkookkhlgllneaaDoorGd
import Derived.Test.YtkookkhlgllneaaDoorGe
namespace Go.Proofs.YtkookkhlgllneaaDoor
open Go.RowKit

/-- a tape in block tb: its list, and how many numbers were drawn -/
structure TpIn (w : World) (tb : Nat) (sp : Option Addr) (n cap : Nat) (l : List Int) (k : Nat) : Prop where
  row : w.heap[tb]? = some (.cells #[.slice sp n cap, .int .i64 k] 37 (0, 0))
  len : l.length = n
  cells : 0 < n → ∃ b off, sp = some ⟨b, off, none⟩ ∧ b < tb ∧ n ≤ cap ∧ ∀ i v, l[i]? = some v → w.cell? ⟨b, off + i, none⟩ = some (.int .i64 v)
  wide : ∀ v ∈ l, -9223372036854775808 ≤ v ∧ v ≤ 9223372036854775807
  short : n ≤ 9223372036854775807
/-- all but the tape's block is as it was -/
structure Turn (tb : Nat) (w w' : World) : Prop where
  os : w'.os = w.os
  tape : w'.tape = w.tape
  output : w'.output = w.output
  size : w.heap.size ≤ w'.heap.size
  block : ∀ k, k < w.heap.size → k ≠ tb → w'.heap[k]? = w.heap[k]?
theorem Turn.refl (tb : Nat) (w : World) : Turn tb w w := ⟨rfl, rfl, rfl, Nat.le_refl _, fun _ _ _ => rfl⟩
theorem Turn.trans {tb : Nat} {a b c : World} (h : Turn tb a b) (k : Turn tb b c) : Turn tb a c :=
  ⟨k.os.trans h.os, k.tape.trans h.tape, k.output.trans h.output, Nat.le_trans h.size k.size, fun i hi hn => (k.block i (by have := h.size; omega) hn).trans (h.block i hi hn)⟩
theorem Turn.of {tb : Nat} {w w' : World} (h : Below w.heap.size w w') : Turn tb w w' := ⟨h.os, h.tape, h.output, h.size, fun k hk _ => h.block k hk⟩
theorem Turn.below {tb B : Nat} {w w' : World} (h : Turn tb w w') (hB : B ≤ tb) (hs : tb < w.heap.size) : Below B w w' := ⟨h.os, h.tape, h.output, h.size, fun k hk => h.block k (by omega) (by omega)⟩
theorem TpIn.lt {w : World} {tb : Nat} {sp : Option Addr} {n cap : Nat} {l : List Int} {k : Nat} (h : TpIn w tb sp n cap l k) : tb < w.heap.size := (Array.getElem?_eq_some_iff.1 h.row).1
theorem TpIn.ofB {w w' : World} {tb B : Nat} {sp : Option Addr} {n cap : Nat} {l : List Int} {k : Nat} (h : TpIn w tb sp n cap l k) (hb : Below B w w') (hB : tb < B) : TpIn w' tb sp n cap l k :=
  ⟨(hb.block tb hB).trans h.row, h.len, fun hn => by
    obtain ⟨b, off, e, hlt, hc, hr⟩ := h.cells hn
    exact ⟨b, off, e, hlt, hc, fun i v hi => (hb.cell (p := ⟨b, off + i, none⟩) (Nat.lt_trans hlt hB)).trans (hr i v hi)⟩, h.wide, h.short⟩
theorem TpIn.of {w w' : World} {tb : Nat} {sp : Option Addr} {n cap : Nat} {l : List Int} {k : Nat} (h : TpIn w tb sp n cap l k) (hb : Below w.heap.size w w') : TpIn w' tb sp n cap l k := h.ofB hb h.lt
/-- q more numbers can be drawn -/
def Tp (w : World) (tb : Nat) (q : Nat) : Prop := ∃ sp n cap l k, TpIn w tb sp n cap l k ∧ k + q ≤ 1000000
theorem Tp.of {w w' : World} {tb q : Nat} (h : Tp w tb q) (hb : Below w.heap.size w w') : Tp w' tb q := by
  obtain ⟨sp, n, cap, l, k, h, hq⟩ := h
  exact ⟨sp, n, cap, l, k, h.of hb, hq⟩
theorem Tp.ofB {w w' : World} {tb q B : Nat} (h : Tp w tb q) (hb : Below B w w') (hB : tb < B) : Tp w' tb q := by
  obtain ⟨sp, n, cap, l, k, h, hq⟩ := h
  exact ⟨sp, n, cap, l, k, h.ofB hb hB, hq⟩
theorem Tp.le {w : World} {tb q q' : Nat} (h : Tp w tb q) (hq' : q' ≤ q) : Tp w tb q' := by
  obtain ⟨sp, n, cap, l, k, h, hq⟩ := h
  exact ⟨sp, n, cap, l, k, h, by omega⟩
theorem Tp.lt {w : World} {tb q : Nat} (h : Tp w tb q) : tb < w.heap.size := by
  obtain ⟨sp, n, cap, l, k, h, hq⟩ := h
  exact h.lt
theorem TpIn.slice {w : World} {tb : Nat} {sp : Option Addr} {n cap : Nat} {l : List Int} {k : Nat} (h : TpIn w tb sp n cap l k) : w.cell? ⟨tb, 0, none⟩ = some (.slice sp n cap) := by rw [cell_of_row w tb 0 _ _ _ h.row]; rfl
theorem TpIn.at {w : World} {tb : Nat} {sp : Option Addr} {n cap : Nat} {l : List Int} {k : Nat} (h : TpIn w tb sp n cap l k) : w.cell? ⟨tb, 1, none⟩ = some (.int .i64 k) := by rw [cell_of_row w tb 1 _ _ _ h.row]; rfl
theorem TpIn.get {w : World} {tb : Nat} {b off : Nat} {n cap : Nat} {l : List Int} {k : Nat} (h : TpIn w tb (some ⟨b, off, none⟩) n cap l k) {i : Nat} {v : Int} (hi : l[i]? = some v) : b ≠ tb ∧ w.cell? ⟨b, off + i, none⟩ = some (.int .i64 v) := by
  have hl := (List.getElem?_eq_some_iff.1 hi).1
  obtain ⟨b', o', e, hne, _, hr⟩ := h.cells (by have := h.len; omega)
  injection e with e; injection e with e1 e2; subst e1 e2
  exact ⟨by omega, hr i v hi⟩

theorem TpIn.tick {w : World} {tb : Nat} {sp : Option Addr} {n cap : Nat} {l : List Int} {k : Nat} (h : TpIn w tb sp n cap l k) : TpIn (w.setCell ⟨tb, 1, none⟩ (.int .i64 ((k : Int) + 1))) tb sp n cap l (k + 1) :=
  ⟨by rw [heap_setCell_same w tb 1 _ _ _ h.row]; rfl, h.len, fun hn => by
    obtain ⟨b, off, e, hlt, hc, hr⟩ := h.cells hn
    exact ⟨b, off, e, hlt, hc, fun i v hi => (World.cell?_of_block (a := ⟨b, off + i, none⟩) (heap_setCell_other w ⟨tb, 1, none⟩ b _ (by show b ≠ tb; omega))).trans (hr i v hi)⟩, h.wide, h.short⟩
theorem Turn.tick (tb i : Nat) (w : World) (u : Value) : Turn tb w (w.setCell ⟨tb, i, none⟩ u) := ⟨rfl, rfl, rfl, by simp [World.setCell], fun k _ hne => heap_setCell_other w ⟨tb, i, none⟩ k _ hne⟩
theorem next_val (x : Int) (m : Nat) (hm : 1 ≤ m) (hm2 : m ≤ 1000000) (h1 : x < m) (h2 : -(m : Int) < x) : ∃ r : Nat, (wrap64 (x + m)).tmod m = r ∧ r < m := by
  have h3 : wrap64 (x + m) = x + m := by unfold wrap64; omega
  rw [h3, Int.tmod_eq_emod_of_nonneg (by omega)]
  have h4 := Int.emod_nonneg (x + m) (b := (m : Int)) (by omega)
  have h5 := Int.emod_lt_of_pos (x + m) (b := (m : Int)) (by omega)
  exact ⟨((x + m) % m).toNat, by omega, by omega⟩

set_option maxRecDepth 100000 in
set_option maxHeartbeats 1000000 in
theorem next_any (tb m q : Nat) (w : World) (ht : Tp w tb (q + 1)) (hm : 1 ≤ m) (hm2 : m ≤ 1000000) :
    Calls Tryd.prog 57 #[.pointer (some ⟨tb, 0, none⟩), .int .i64 m] w fun e w' => ∃ r : Nat, e = .returned (.int .i64 r) ∧ r < m ∧ Tp w' tb q ∧ Turn tb w w' := by
  obtain ⟨sp, n, cap, l, k, hin, hq⟩ := ht
  have h0 := hin.slice
  have h1 := hin.at
  have HIN := Lib.hid hin
  have hm1 : decide ((m : Int) < 1) = false := by simp; omega
  have hmz : ((m : Int) == 0) = false := by simp; omega
  clear hin
  go_enter Tryd.func57, Tryd.ntmps57
  have HDR := Lib.hid (show TpIn w.drew tb sp n cap l k ∧ Turn tb w w.drew from ⟨HIN.out.of ((Below.refl w.heap.size w).drew), Turn.of ((Below.refl w.heap.size w).drew)⟩)
  have HDR := Lib.hid (show TpIn w.drew tb sp n cap l k ∧ Turn tb w w.drew from ⟨HIN.out.of ((Below.refl w.heap.size w).drew), Turn.of ((Below.refl w.heap.size w).drew)⟩)
  have HDR := Lib.hid (show TpIn w.drew tb sp n cap l k ∧ Turn tb w w.drew from ⟨HIN.out.of ((Below.refl w.heap.size w).drew), Turn.of ((Below.refl w.heap.size w).drew)⟩)
  have HDR := Lib.hid (show TpIn w.drew tb sp n cap l k ∧ Turn tb w w.drew from ⟨HIN.out.of ((Below.refl w.heap.size w).drew), Turn.of ((Below.refl w.heap.size w).drew)⟩)
  have HDR := Lib.hid (show TpIn w.drew tb sp n cap l k ∧ Turn tb w w.drew from ⟨HIN.out.of ((Below.refl w.heap.size w).drew), Turn.of ((Below.refl w.heap.size w).drew)⟩)
  by_cases hk : k < n
  · have hd : decide ((k : Int) < (n : Int)) = true := by simp; omega
    obtain ⟨v, hv⟩ : ∃ v, l[k]? = some v := ⟨l[k]'(by have := HIN.out.len; omega), List.getElem?_eq_getElem _⟩
    have HV := Lib.hid hv
    have HWD := Lib.hid (HIN.out.wide v (List.mem_of_getElem? hv))
    obtain ⟨b, off, rfl, hne, hcap, -⟩ := HIN.out.cells (by omega)
    have p1 : (0 : Int) ≤ (k : Int) := by omega
    have p2 : (k : Int) < (n : Int) := by omega
    clear hv
    go_wp2_with fail
    refine wp_region_held_drew (S := fun w' => TpIn w' tb (some ⟨b, off, none⟩) n cap l k ∧ Turn tb w w') (by kernel_rfl) HDR.out (fun hHeld => ?_)
    refine wpAnyH_take (i := 0) (oi := _) (v := ?v0n12) rfl (by kernel_rfl) (by kernel_rfl) (by kernel_rfl) (fun _ _ _ h => h) (Or.inl ⟨by rfl, ?hy0n12⟩) (by assumption) ?rest0n12
    case hy0n12 =>
      intro w' hSw
      go_simp
      try with_reducible rfl
    try simp only [Act.put, List.getElem_toArray, List.getElem_cons_succ, List.getElem_cons_zero, List.setIfInBounds_toArray, List.set_cons_zero, List.set_cons_succ]
    refine wpAnyH_take (i := 1) (oi := _) (v := ?v1n13) rfl (by kernel_rfl) (by kernel_rfl) (by kernel_rfl) (fun _ _ _ h => h) (Or.inl ⟨by rfl, ?hy1n13⟩) (by assumption) ?rest1n13
    case hy1n13 =>
      intro w' hSw
      go_simp
      try with_reducible rfl
    try simp only [Act.put, List.getElem_toArray, List.getElem_cons_succ, List.getElem_cons_zero, List.setIfInBounds_toArray, List.set_cons_zero, List.set_cons_succ]
    refine wpAnyH_take (i := 2) (oi := _) (v := ?v2n14) rfl (by kernel_rfl) (by kernel_rfl) (by kernel_rfl) (fun _ _ _ h => h) (Or.inl ⟨by rfl, ?hy2n14⟩) (by assumption) ?rest2n14
    case hy2n14 =>
      intro w' hSw
      go_simp
      try with_reducible rfl
    try simp only [Act.put, List.getElem_toArray, List.getElem_cons_succ, List.getElem_cons_zero, List.setIfInBounds_toArray, List.set_cons_zero, List.set_cons_succ]
    refine wpAnyH_take (i := 3) (oi := _) (v := ?v3n15) rfl (by kernel_rfl) (by kernel_rfl) (by kernel_rfl) (fun _ _ _ h => h) (Or.inl ⟨by rfl, ?hy3n15⟩) (by assumption) ?rest3n15
    case hy3n15 =>
      intro w' hSw
      have h2 := hSw.1.at
      go_simp
      try with_reducible rfl
    try simp only [Act.put, List.getElem_toArray, List.getElem_cons_succ, List.getElem_cons_zero, List.setIfInBounds_toArray, List.set_cons_zero, List.set_cons_succ]
    refine wpAnyH_take (i := 4) (oi := _) (v := ?v4n16) rfl (by kernel_rfl) (by kernel_rfl) (by kernel_rfl) (fun _ _ _ h => h) (Or.inl ⟨by rfl, ?hy4n16⟩) (by assumption) ?rest4n16
    case hy4n16 =>
      intro w' hSw
      go_simp
      try with_reducible rfl
    try simp only [Act.put, List.getElem_toArray, List.getElem_cons_succ, List.getElem_cons_zero, List.setIfInBounds_toArray, List.set_cons_zero, List.set_cons_succ]
    refine wpAnyH_take (i := 5) (oi := _) (v := ?v5n17) rfl (by kernel_rfl) (by kernel_rfl) (by kernel_rfl) (fun _ _ _ h => h) (Or.inl ⟨by rfl, ?hy5n17⟩) (by assumption) ?rest5n17
    case hy5n17 =>
      intro w' hSw
      go_simp
      try with_reducible rfl
    try simp only [Act.put, List.getElem_toArray, List.getElem_cons_succ, List.getElem_cons_zero, List.setIfInBounds_toArray, List.set_cons_zero, List.set_cons_succ]
    refine wpAnyH_take (i := 6) (oi := _) (v := ?v6n18) rfl (by kernel_rfl) (by kernel_rfl) (by kernel_rfl) (fun _ _ _ h => h) (Or.inl ⟨by rfl, ?hy6n18⟩) (by assumption) ?rest6n18
    case hy6n18 =>
      intro w' hSw
      go_simp
      try with_reducible rfl
    try simp only [Act.put, List.getElem_toArray, List.getElem_cons_succ, List.getElem_cons_zero, List.setIfInBounds_toArray, List.set_cons_zero, List.set_cons_succ]
    refine wpAnyH_take (i := 7) (oi := _) (v := ?v7n19) rfl (by kernel_rfl) (by kernel_rfl) (by kernel_rfl) (fun _ _ _ h => h) (Or.inl ⟨by rfl, ?hy7n19⟩) (by assumption) ?rest7n19
    case hy7n19 =>
      intro w' hSw
      have h2 := hSw.1.slice
      go_simp
      try with_reducible rfl
    try simp only [Act.put, List.getElem_toArray, List.getElem_cons_succ, List.getElem_cons_zero, List.setIfInBounds_toArray, List.set_cons_zero, List.set_cons_succ]
    refine wpAnyH_take (i := 8) (oi := _) (v := ?v8n20) rfl (by kernel_rfl) (by kernel_rfl) (by kernel_rfl) (fun _ _ _ h => h) (Or.inl ⟨by rfl, ?hy8n20⟩) (by assumption) ?rest8n20
    case hy8n20 =>
      intro w' hSw
      go_simp
      try with_reducible rfl
    try simp only [Act.put, List.getElem_toArray, List.getElem_cons_succ, List.getElem_cons_zero, List.setIfInBounds_toArray, List.set_cons_zero, List.set_cons_succ]
    refine wpAnyH_take (i := 9) (oi := _) (v := ?v9n21) rfl (by kernel_rfl) (by kernel_rfl) (by kernel_rfl) (fun _ _ _ h => h) (Or.inl ⟨by rfl, ?hy9n21⟩) (by assumption) ?rest9n21
    case hy9n21 =>
      intro w' hSw
      go_simp
      try with_reducible rfl
    try simp only [Act.put, List.getElem_toArray, List.getElem_cons_succ, List.getElem_cons_zero, List.setIfInBounds_toArray, List.set_cons_zero, List.set_cons_succ]
    refine wpAnyH_done (by kernel_rfl) ?_ _
    clear hHeld
    have HT1 := Lib.hid HDR.out.1
    have HU1 := Lib.hid HDR.out.2
    generalize World.drew w = w1 at HT1 HU1 ⊢
    go_wp2_with fail
    refine wp_region_held_drew (S := fun w' => TpIn w' tb (some ⟨b, off, none⟩) n cap l k ∧ Turn tb w w') (by kernel_rfl) ⟨HT1.out.of ((Below.refl w1.heap.size w1).drew), HU1.out.trans (Turn.of ((Below.refl w1.heap.size w1).drew))⟩ (fun hHeld => ?_)
    refine wpAnyH_take (i := 0) (oi := _) (v := ?v0n1) rfl (by kernel_rfl) (by kernel_rfl) (by kernel_rfl) (fun _ _ _ h => h) (Or.inl ⟨by rfl, ?hy0n1⟩) (by assumption) ?rest0n1
    case hy0n1 =>
      intro w' hSw
      go_simp
      try with_reducible rfl
    try simp only [Act.put, List.getElem_toArray, List.getElem_cons_succ, List.getElem_cons_zero, List.setIfInBounds_toArray, List.set_cons_zero, List.set_cons_succ]
    refine wpAnyH_take (i := 1) (oi := _) (v := ?v1n2) rfl (by kernel_rfl) (by kernel_rfl) (by kernel_rfl) (fun _ _ _ h => h) (Or.inl ⟨by rfl, ?hy1n2⟩) (by assumption) ?rest1n2
    case hy1n2 =>
      intro w' hSw
      go_simp
      try with_reducible rfl
    try simp only [Act.put, List.getElem_toArray, List.getElem_cons_succ, List.getElem_cons_zero, List.setIfInBounds_toArray, List.set_cons_zero, List.set_cons_succ]
    refine wpAnyH_take (i := 2) (oi := _) (v := ?v2n3) rfl (by kernel_rfl) (by kernel_rfl) (by kernel_rfl) (fun _ _ _ h => h) (Or.inl ⟨by rfl, ?hy2n3⟩) (by assumption) ?rest2n3
    case hy2n3 =>
      intro w' hSw
      go_simp
      try with_reducible rfl
    try simp only [Act.put, List.getElem_toArray, List.getElem_cons_succ, List.getElem_cons_zero, List.setIfInBounds_toArray, List.set_cons_zero, List.set_cons_succ]
    refine wpAnyH_take (i := 3) (oi := _) (v := ?v3n4) rfl (by kernel_rfl) (by kernel_rfl) (by kernel_rfl) (fun _ _ _ h => h) (Or.inl ⟨by rfl, ?hy3n4⟩) (by assumption) ?rest3n4
    case hy3n4 =>
      intro w' hSw
      have h2 := hSw.1.slice
      go_simp
      try with_reducible rfl
    try simp only [Act.put, List.getElem_toArray, List.getElem_cons_succ, List.getElem_cons_zero, List.setIfInBounds_toArray, List.set_cons_zero, List.set_cons_succ]
    refine wpAnyH_take (i := 4) (oi := _) (v := ?v4n5) rfl (by kernel_rfl) (by kernel_rfl) (by kernel_rfl) (fun _ _ _ h => h) (Or.inl ⟨by rfl, ?hy4n5⟩) (by assumption) ?rest4n5
    case hy4n5 =>
      intro w' hSw
      go_simp
      try with_reducible rfl
    try simp only [Act.put, List.getElem_toArray, List.getElem_cons_succ, List.getElem_cons_zero, List.setIfInBounds_toArray, List.set_cons_zero, List.set_cons_succ]
    refine wpAnyH_take (i := 5) (oi := _) (v := ?v5n6) rfl (by kernel_rfl) (by kernel_rfl) (by kernel_rfl) (fun _ _ _ h => h) (Or.inl ⟨by rfl, ?hy5n6⟩) (by assumption) ?rest5n6
    case hy5n6 =>
      intro w' hSw
      go_simp
      try with_reducible rfl
    try simp only [Act.put, List.getElem_toArray, List.getElem_cons_succ, List.getElem_cons_zero, List.setIfInBounds_toArray, List.set_cons_zero, List.set_cons_succ]
    refine wpAnyH_take (i := 6) (oi := _) (v := ?v6n7) rfl (by kernel_rfl) (by kernel_rfl) (by kernel_rfl) (fun _ _ _ h => h) (Or.inl ⟨by rfl, ?hy6n7⟩) (by assumption) ?rest6n7
    case hy6n7 =>
      intro w' hSw
      go_simp
      try with_reducible rfl
    try simp only [Act.put, List.getElem_toArray, List.getElem_cons_succ, List.getElem_cons_zero, List.setIfInBounds_toArray, List.set_cons_zero, List.set_cons_succ]
    refine wpAnyH_take (i := 7) (oi := _) (v := ?v7n8) rfl (by kernel_rfl) (by kernel_rfl) (by kernel_rfl) (fun _ _ _ h => h) (Or.inl ⟨by rfl, ?hy7n8⟩) (by assumption) ?rest7n8
    case hy7n8 =>
      intro w' hSw
      have h2 := hSw.1.at
      go_simp
      try with_reducible rfl
    try simp only [Act.put, List.getElem_toArray, List.getElem_cons_succ, List.getElem_cons_zero, List.setIfInBounds_toArray, List.set_cons_zero, List.set_cons_succ]
    refine wpAnyH_take (i := 8) (oi := _) (v := ?v8n9) rfl (by kernel_rfl) (by kernel_rfl) (by kernel_rfl) (fun _ _ _ h => h) (Or.inl ⟨by rfl, ?hy8n9⟩) (by assumption) ?rest8n9
    case hy8n9 =>
      intro w' hSw
      go_simp
      try with_reducible rfl
    try simp only [Act.put, List.getElem_toArray, List.getElem_cons_succ, List.getElem_cons_zero, List.setIfInBounds_toArray, List.set_cons_zero, List.set_cons_succ]
    refine wpAnyH_take (i := 9) (oi := _) (v := ?v9n10) rfl (by kernel_rfl) (by kernel_rfl) (by kernel_rfl) (fun _ _ _ h => h) (Or.inl ⟨by rfl, ?hy9n10⟩) (by assumption) ?rest9n10
    case hy9n10 =>
      intro w' hSw
      have h2 := (hSw.1.get HV.out).2
      go_simp
      try with_reducible rfl
    try simp only [Act.put, List.getElem_toArray, List.getElem_cons_succ, List.getElem_cons_zero, List.setIfInBounds_toArray, List.set_cons_zero, List.set_cons_succ]
    refine wpAnyH_take (i := 10) (oi := _) (v := ?v10n11) rfl (by kernel_rfl) (by kernel_rfl) (by kernel_rfl) (fun _ _ _ h => h) (Or.inl ⟨by rfl, ?hy10n11⟩) (by assumption) ?rest10n11
    case hy10n11 =>
      intro w' hSw
      go_simp
      try with_reducible rfl
    try simp only [Act.put, List.getElem_toArray, List.getElem_cons_succ, List.getElem_cons_zero, List.setIfInBounds_toArray, List.set_cons_zero, List.set_cons_succ]
    refine wpAnyH_done (by kernel_rfl) ?_ _
    clear hHeld
    have HT2 := Lib.hid (HT1.out.of ((Below.refl w1.heap.size w1).drew))
    have HU2 := Lib.hid (HU1.out.trans (Turn.of ((Below.refl w1.heap.size w1).drew)))
    generalize World.drew w1 = w2 at HT2 HU2 ⊢
    have h5 := HT2.out.at
    have hf5 : w2.frozen? ⟨tb, 1, none⟩ = false := by simp [World.frozen?, HT2.out.row]
    have HR := Lib.hid (next_val (v.tmod m) m hm hm2 (Int.tmod_lt_of_pos v (by omega)) (Int.lt_tmod_of_pos v (by omega)))
    go_wp2_with fail
    obtain ⟨r, hr, hrm⟩ := HR.out
    go_ret
    exact ⟨r, by show Ending.returned (.int .i64 ((wrap64 (v.tmod m + m)).tmod m)) = _; rw [hr], hrm, ⟨_, n, cap, l, k + 1, HT2.out.tick, by omega⟩, HU2.out.trans (Turn.tick _ _ _ _)⟩
  · have hd : decide ((k : Int) < (n : Int)) = false := by simp; omega
    go_wp2_with fail
    refine wp_region_held_drew (S := fun w' => TpIn w' tb sp n cap l k ∧ Turn tb w w') (by kernel_rfl) HDR.out (fun hHeld => ?_)
    refine wpAnyH_take (i := 0) (oi := _) (v := ?v0n22) rfl (by kernel_rfl) (by kernel_rfl) (by kernel_rfl) (fun _ _ _ h => h) (Or.inl ⟨by rfl, ?hy0n22⟩) (by assumption) ?rest0n22
    case hy0n22 =>
      intro w' hSw
      go_simp
      try with_reducible rfl
    try simp only [Act.put, List.getElem_toArray, List.getElem_cons_succ, List.getElem_cons_zero, List.setIfInBounds_toArray, List.set_cons_zero, List.set_cons_succ]
    refine wpAnyH_take (i := 1) (oi := _) (v := ?v1n23) rfl (by kernel_rfl) (by kernel_rfl) (by kernel_rfl) (fun _ _ _ h => h) (Or.inl ⟨by rfl, ?hy1n23⟩) (by assumption) ?rest1n23
    case hy1n23 =>
      intro w' hSw
      go_simp
      try with_reducible rfl
    try simp only [Act.put, List.getElem_toArray, List.getElem_cons_succ, List.getElem_cons_zero, List.setIfInBounds_toArray, List.set_cons_zero, List.set_cons_succ]
    refine wpAnyH_take (i := 2) (oi := _) (v := ?v2n24) rfl (by kernel_rfl) (by kernel_rfl) (by kernel_rfl) (fun _ _ _ h => h) (Or.inl ⟨by rfl, ?hy2n24⟩) (by assumption) ?rest2n24
    case hy2n24 =>
      intro w' hSw
      go_simp
      try with_reducible rfl
    try simp only [Act.put, List.getElem_toArray, List.getElem_cons_succ, List.getElem_cons_zero, List.setIfInBounds_toArray, List.set_cons_zero, List.set_cons_succ]
    refine wpAnyH_take (i := 3) (oi := _) (v := ?v3n25) rfl (by kernel_rfl) (by kernel_rfl) (by kernel_rfl) (fun _ _ _ h => h) (Or.inl ⟨by rfl, ?hy3n25⟩) (by assumption) ?rest3n25
    case hy3n25 =>
      intro w' hSw
      have h2 := hSw.1.at
      go_simp
      try with_reducible rfl
    try simp only [Act.put, List.getElem_toArray, List.getElem_cons_succ, List.getElem_cons_zero, List.setIfInBounds_toArray, List.set_cons_zero, List.set_cons_succ]
    refine wpAnyH_take (i := 4) (oi := _) (v := ?v4n26) rfl (by kernel_rfl) (by kernel_rfl) (by kernel_rfl) (fun _ _ _ h => h) (Or.inl ⟨by rfl, ?hy4n26⟩) (by assumption) ?rest4n26
    case hy4n26 =>
      intro w' hSw
      go_simp
      try with_reducible rfl
    try simp only [Act.put, List.getElem_toArray, List.getElem_cons_succ, List.getElem_cons_zero, List.setIfInBounds_toArray, List.set_cons_zero, List.set_cons_succ]
    refine wpAnyH_take (i := 5) (oi := _) (v := ?v5n27) rfl (by kernel_rfl) (by kernel_rfl) (by kernel_rfl) (fun _ _ _ h => h) (Or.inl ⟨by rfl, ?hy5n27⟩) (by assumption) ?rest5n27
    case hy5n27 =>
      intro w' hSw
      go_simp
      try with_reducible rfl
    try simp only [Act.put, List.getElem_toArray, List.getElem_cons_succ, List.getElem_cons_zero, List.setIfInBounds_toArray, List.set_cons_zero, List.set_cons_succ]
    refine wpAnyH_take (i := 6) (oi := _) (v := ?v6n28) rfl (by kernel_rfl) (by kernel_rfl) (by kernel_rfl) (fun _ _ _ h => h) (Or.inl ⟨by rfl, ?hy6n28⟩) (by assumption) ?rest6n28
    case hy6n28 =>
      intro w' hSw
      go_simp
      try with_reducible rfl
    try simp only [Act.put, List.getElem_toArray, List.getElem_cons_succ, List.getElem_cons_zero, List.setIfInBounds_toArray, List.set_cons_zero, List.set_cons_succ]
    refine wpAnyH_take (i := 7) (oi := _) (v := ?v7n29) rfl (by kernel_rfl) (by kernel_rfl) (by kernel_rfl) (fun _ _ _ h => h) (Or.inl ⟨by rfl, ?hy7n29⟩) (by assumption) ?rest7n29
    case hy7n29 =>
      intro w' hSw
      have h2 := hSw.1.slice
      go_simp
      try with_reducible rfl
    try simp only [Act.put, List.getElem_toArray, List.getElem_cons_succ, List.getElem_cons_zero, List.setIfInBounds_toArray, List.set_cons_zero, List.set_cons_succ]
    refine wpAnyH_take (i := 8) (oi := _) (v := ?v8n30) rfl (by kernel_rfl) (by kernel_rfl) (by kernel_rfl) (fun _ _ _ h => h) (Or.inl ⟨by rfl, ?hy8n30⟩) (by assumption) ?rest8n30
    case hy8n30 =>
      intro w' hSw
      go_simp
      try with_reducible rfl
    try simp only [Act.put, List.getElem_toArray, List.getElem_cons_succ, List.getElem_cons_zero, List.setIfInBounds_toArray, List.set_cons_zero, List.set_cons_succ]
    refine wpAnyH_take (i := 9) (oi := _) (v := ?v9n31) rfl (by kernel_rfl) (by kernel_rfl) (by kernel_rfl) (fun _ _ _ h => h) (Or.inl ⟨by rfl, ?hy9n31⟩) (by assumption) ?rest9n31
    case hy9n31 =>
      intro w' hSw
      go_simp
      try with_reducible rfl
    try simp only [Act.put, List.getElem_toArray, List.getElem_cons_succ, List.getElem_cons_zero, List.setIfInBounds_toArray, List.set_cons_zero, List.set_cons_succ]
    refine wpAnyH_done (by kernel_rfl) ?_ _
    clear hHeld
    have HT2 := Lib.hid HDR.out.1
    have HU2 := Lib.hid HDR.out.2
    generalize World.drew w = w2 at HT2 HU2 ⊢
    have h5 := HT2.out.at
    have hf5 : w2.frozen? ⟨tb, 1, none⟩ = false := by simp [World.frozen?, HT2.out.row]
    have HR := Lib.hid (next_val (((k : Int) * 7 + 3) % m) m hm hm2 (Int.emod_lt_of_pos _ (by omega)) (by have := Int.emod_nonneg ((k : Int) * 7 + 3) (b := (m : Int)) (by omega); omega))
    go_wp2_with fail
    obtain ⟨r, hr, hrm⟩ := HR.out
    go_ret
    exact ⟨r, by show Ending.returned (.int .i64 ((wrap64 (((k : Int) * 7 + 3) % m + m)).tmod m)) = _; rw [hr], hrm, ⟨_, n, cap, l, k + 1, HT2.out.tick, by omega⟩, HU2.out.trans (Turn.tick _ _ _ _)⟩
end Go.Proofs.YtkookkhlgllneaaDoor

namespace Go.Proofs.YtkookkhlgllneaaDoor
open Go.RowKit

theorem Turn.cell {tb b o : Nat} {w w' : World} (h : Turn tb w w') (hb : b < w.heap.size) (hne : b ≠ tb) : w'.cell? ⟨b, o, none⟩ = w.cell? ⟨b, o, none⟩ := World.cell?_of_block (a := ⟨b, o, none⟩) (h.block b hb hne)
set_option maxRecDepth 100000 in
set_option maxHeartbeats 1000000 in
theorem pick_any (tb q b n : Nat) (ls : List ByteArray) (w : World) (ht : Tp w tb (q + 1)) (hn : ls.length = n) (hn1 : 1 ≤ n) (hn2 : n ≤ 1000000) (hb : b < w.heap.size) (hne : b ≠ tb)
    (hp : ∀ i s, ls[i]? = some s → w.cell? ⟨b, i, none⟩ = some (.string s)) :
    Calls Tryd.prog 68 #[.pointer (some ⟨tb, 0, none⟩), .slice (some ⟨b, 0, none⟩) n n] w fun e w' => ∃ s ∈ ls, e = .returned (.string s) ∧ Tp w' tb q ∧ Turn tb w w' := by
  have HT := Lib.hid ht; have HP := Lib.hid hp; have HN := Lib.hid hn
  clear ht hp hn
  go_enter Tryd.func68, Tryd.ntmps68
  go_wp2_with fail
  refine (next_any tb n q w HT.out hn1 hn2).mono ?_
  rintro e w1 ⟨r, rfl, hr, ht1, hu1⟩
  have HT1 := Lib.hid ht1; have HU1 := Lib.hid hu1; clear ht1 hu1
  obtain ⟨s, hs⟩ : ∃ s, ls[r]? = some s := ⟨ls[r]'(by have := HN.out; omega), List.getElem?_eq_getElem _⟩
  have h1 : w1.cell? ⟨b, r, none⟩ = some (.string s) := (HU1.out.cell hb hne).trans (HP.out r s hs)
  have h2 : w1.cell? ⟨b, 0 + r, none⟩ = some (.string s) := by rw [Nat.zero_add]; exact h1
  have HS := Lib.hid (List.mem_of_getElem? hs)
  have p1 : (0 : Int) ≤ (r : Int) := by omega
  have p2 : (r : Int) < (n : Int) := by omega
  clear hs
  go_wp2_with fail
  go_ret
  exact ⟨s, HS.out, rfl, HT1.out, HU1.out⟩

theorem results_row1 {P : Program} {fn : Func} {p : Tmp} {ty : TypeId} (h : fn.results = #[.cell p ty]) (tmps : Array Value) (w : World) (g : Nat) (t : TypeId) (cs : Array Value) (fr : Nat × Nat) (d : TypeDesc)
    (hp : tmps.getD p undef = .pointer (some ⟨g, 0, none⟩)) (hg : w.heap[g]? = some (.cells cs t fr))
    (hu : P.underlying ty = some d) (hd : (match d with | .struct _ | .array _ _ => true | _ => false) = true) (hi : (P.info? ty).map (·.size) = some cs.size) :
    (results fn tmps).run P w = .ok (.agg cs) w := by
  have hp' : tmps[p]?.getD undef = .pointer (some ⟨g, 0, none⟩) := by simpa using hp
  simp [results, h, hp', asAddr, run_loadVar_row w g t ty cs fr d hg hu hd hi]
theorem Turn.setRow {tb g : Nat} {w w1 : World} (h : Turn tb w w1) (hg : w.heap.size ≤ g) (cs : Array Value) : Turn tb w (w1.setRow g cs) := by
  have hb := below_setRow (Below.refl w.heap.size w1) hg cs
  exact ⟨hb.os.trans h.os, hb.tape.trans h.tape, hb.output.trans h.output, Nat.le_trans h.size hb.size, fun k hk hn => (hb.block k hk).trans (h.block k hk hn)⟩
def dg1 (r : Nat) : List Int := (1 + (r : Int)) :: List.replicate 31 0
theorem dg1_ok (r : Nat) (h : r < 6) : D32 (dg1 r) := ⟨rfl, fun x hx => by
  rcases List.mem_cons.1 hx with rfl | h
  · omega
  · rw [List.eq_of_mem_replicate h]; omega⟩
theorem dg1_ne (r : Nat) : dg1 r ≠ zed := fun e => by
  have : (1 + (r : Int)) = 0 := by
    have h2 := congrArg (fun l : List Int => l.getD 0 0) e
    exact h2
  omega
theorem buildD1 (x : Int) (w : World) : (Instr.build 28 #[(0, .int .u8 x)]).run Tryd.prog w = .ok (.agg ((x :: List.replicate 31 0).map (Value.int .u8)).toArray) w := by kernel_rfl
set_option maxRecDepth 100000 in
set_option maxHeartbeats 1000000 in
theorem tsum_any (tb q : Nat) (w : World) (ht : Tp w tb (q + 1)) :
    Calls Tryd.prog 60 #[.pointer (some ⟨tb, 0, none⟩)] w fun e w' => ∃ d : List Int, e = .returned (.agg (d.map (Value.int .u8)).toArray) ∧ D32 d ∧ d ≠ zed ∧ Tp w' tb q ∧ Turn tb w w' := by
  have HT := Lib.hid ht; clear ht
  go_enter Tryd.func60, Tryd.ntmps60
  go_wp2_with fail
  generalize hw0 : World.alloc w _ = w0
  have hr0 : w0.heap[w.heap.size]? = some (.cells (Array.replicate 32 (Value.int .u8 0)) 28 (0, 0)) := by rw [← hw0]; exact heap_alloc_new _ _
  have hb0 : Below w.heap.size w w0 := by rw [← hw0]; exact (Below.refl _ _).alloc (Nat.le_refl _) _
  have HTL := Lib.hid HT.out.lt
  have HR0 := Lib.hid hr0; have HB0 := Lib.hid hb0
  have HT0 := Lib.hid (HT.out.of hb0)
  clear hw0 hr0 hb0
  refine (next_any tb 6 q w0 HT0.out (by omega) (by omega)).mono ?_
  rintro e w1 ⟨r, rfl, hr, ht1, hu1⟩
  have hlt0 : w.heap.size < w0.heap.size := (Array.getElem?_eq_some_iff.1 HR0.out).1
  have HR1 := Lib.hid ((hu1.block w.heap.size hlt0 (by have := HTL.out; omega)).trans HR0.out)
  have HT1 := Lib.hid ht1
  have HU1 := Lib.hid ((Turn.of (tb := tb) HB0.out).trans hu1); clear ht1 hu1
  have q1 : IntKind.u8.wrap (1 + (r : Int)) = 1 + (r : Int) := by unfold IntKind.wrap; simp [IntKind.signed, IntKind.bits]; omega
  have HOK := Lib.hid (dg1_ok r hr)
  have HI1 : Hid ((Tryd.prog.info? 28).map (·.size) = some ((dg1 r).map (Value.int .u8)).toArray.size) := by show _ = _; rw [List.size_toArray]; exact info_d HOK.out
  have HI1s : Hid (32 = ((dg1 r).map (Value.int .u8)).toArray.size) := by show _ = _; rfl
  go_wp2_with (first
    | (refine wpList_build_eq rfl 28 [(0, .tmp 6)] rfl [(0, .int .u8 (1 + (r : Int)))] rfl _ (buildD1 _ _) ?_)
    | (refine wpList_store_row rfl 28 _ _ rfl w.heap.size ((dg1 r).map (Value.int .u8)).toArray rfl rfl 28 _ HR1.out HI1.out ((rfl : (Array.replicate 32 (Value.int .u8 0)).size = 32).trans HI1s.out) (dgA_one _) ?_))
  refine bodyPost_ret (results_row1 (P := Tryd.prog) rfl _ _ w.heap.size 28 _ (0, 0) _ rfl (setRow_heap _ _ _ _ _ _ HR1.out) Tryd.underlying28 rfl HI1.out) rfl ?_
  exact ⟨dg1 r, rfl, HOK.out, dg1_ne r, HT1.out.ofB (below_setRow (Below.refl w.heap.size w1) (Nat.le_refl _) _) HTL.out, HU1.out.setRow (Nat.le_refl _) _⟩

def dirsT : List ByteArray := [⟨#[97]⟩, ⟨#[98]⟩, ⟨#[115, 114, 99]⟩, ⟨#[111, 117, 116]⟩, ⟨#[108, 105, 98]⟩]
def filesT : List ByteArray := [⟨#[97]⟩, ⟨#[98]⟩, ⟨#[97, 46, 99]⟩, ⟨#[98, 46, 104]⟩, ⟨#[120]⟩, ⟨#[111, 117, 116]⟩]
def preT : Nat → List ByteArray
  | 0 => [⟨#[]⟩]
  | j + 1 => (preT j).flatMap fun s => dirsT.map fun d => s ++ d ++ ⟨#[47]⟩
theorem paths_ok : ∀ j, j < 3 → ∀ s ∈ preT j, ∀ f ∈ filesT, pathB (s ++ f) = true := by decide +kernel
theorem preT_size : ∀ j, j < 3 → ∀ s ∈ preT j, s.size ≤ 100 := by decide +kernel
theorem dirsT_size : ∀ d ∈ dirsT, d.size ≤ 100 := by decide +kernel
theorem filesT_size : ∀ d ∈ filesT, d.size ≤ 100 := by decide +kernel
theorem preT_next {j : Nat} {s d : ByteArray} (h : s ∈ preT j) (hd : d ∈ dirsT) : s ++ d ++ ⟨#[47]⟩ ∈ preT (j + 1) := List.mem_flatMap.2 ⟨s, h, List.mem_map.2 ⟨d, hd, rfl⟩⟩
theorem strs_alloc (ls : List ByteArray) (w : World) (t : TypeId) (i : Nat) (s : ByteArray) (h : ls[i]? = some s) : (w.alloc (.cells (ls.map Value.string).toArray t)).cell? ⟨w.heap.size, i, none⟩ = some (.string s) := by
  rw [cell_of_row _ w.heap.size i _ _ _ (heap_alloc_new w _)]
  simp [h]
theorem pick_new (tb q n : Nat) (ls : List ByteArray) (w : World) (ht : Tp w tb (q + 1)) (hn : ls.length = n) (hn1 : 1 ≤ n) (hn2 : n ≤ 1000000) :
    Calls Tryd.prog 68 #[.pointer (some ⟨tb, 0, none⟩), .slice (some ⟨w.heap.size, 0, none⟩) n n] (w.alloc (.cells (ls.map Value.string).toArray 9)) fun e w' => ∃ s ∈ ls, e = .returned (.string s) ∧ Tp w' tb q ∧ Turn tb w w' := by
  have hb : Below w.heap.size w (w.alloc (.cells (ls.map Value.string).toArray 9)) := (Below.refl _ _).alloc (Nat.le_refl _) _
  have hlt := ht.lt
  refine (pick_any tb q w.heap.size n ls _ (ht.of hb) hn hn1 hn2 (Array.getElem?_eq_some_iff.1 (heap_alloc_new w _)).1 (by omega) (strs_alloc ls w _)).mono ?_
  rintro e w' ⟨s, hs, he, h1, h2⟩
  exact ⟨s, hs, he, h1, (Turn.of hb).trans h2⟩
set_option maxRecDepth 100000 in
set_option maxHeartbeats 1000000 in
theorem path_any (tb q : Nat) (w : World) (ht : Tp w tb (q + 4)) :
    Calls Tryd.prog 59 #[.pointer (some ⟨tb, 0, none⟩)] w fun e w' => ∃ s : ByteArray, e = .returned (.string s) ∧ pathB s = true ∧ Tp w' tb q ∧ Turn tb w w' := by
  have HT := Lib.hid ht; clear ht
  go_enter Tryd.func59, Tryd.ntmps59
  go_wp2_with fail
  refine (next_any tb 3 (q + 3) w HT.out (by omega) (by omega)).mono ?_
  rintro e w1 ⟨r, rfl, hr, ht1, hu1⟩
  have HT1 := Lib.hid ht1; have HU1 := Lib.hid hu1; clear ht1 hu1
  go_wp2_with fail
  go_loopw [3, 4] (fun v i wr => ∃ (j n : Nat) (s : ByteArray), j + n = r ∧ i = .int .i64 n ∧ v = .string s ∧ Hid (s ∈ preT j) ∧ Hid (Tp wr tb (q + 1 + n)) ∧ Hid (Turn tb w wr)) (fun _ i _ => (intOf i).toNat)
  case atStart => exact ⟨0, r, _, by omega, rfl, rfl, by show _ ∈ _; exact List.mem_singleton.2 rfl, HT1.out.le (by omega), HU1.out⟩
  case round =>
  clear HT1 HU1
  obtain ⟨j, n, s, hj, rfl, rfl, HS, HTT, HU⟩ := hrel
  by_cases hn : 0 < n
  · have hd : decide ((n : Int) > 0) = true := by simp; omega
    have q1 : IntKind.i64.wrap ((n : Int) - 1) = (n : Int) - 1 := IntWalk.i64_in _ (by omega)
    go_wp2_with fail
    refine (pick_new tb (q + n) 5 dirsT wr (HTT.out.le (by omega)) rfl (by omega) (by omega)).mono ?_
    rintro e w2 ⟨d, hdm, rfl, ht2, hu2⟩
    have HS2 := Lib.hid (preT_next HS.out hdm)
    have z1 := preT_size j (by omega) s HS.out
    have z2 := dirsT_size d hdm
    have g1 : s.size + d.size ≤ 9223372036854775807 := by omega
    have g2 : s.size + d.size + 1 ≤ 9223372036854775807 := by omega
    have HT2 := Lib.hid ht2; have HU2 := Lib.hid (HU.out.trans hu2)
    clear ht2 hu2 hdm
    go_wp2_with fail
    go_roundw
    case rel => exact ⟨j + 1, n - 1, s ++ d ++ ⟨#[47]⟩, by omega, by go_num, rfl, HS2, HT2.out.le (by omega), HU2⟩
    case measure => simp [intOf]; omega
  · obtain rfl : n = 0 := by omega
    have HO := Lib.hid (paths_ok j (by omega) s HS.out)
    go_wp2_with fail
    refine (pick_new tb q 6 filesT wr (HTT.out.le (by omega)) rfl (by omega) (by omega)).mono ?_
    rintro e w2 ⟨f, hfm, rfl, ht2, hu2⟩
    have HF := Lib.hid (HO.out f hfm)
    have z1 := preT_size j (by omega) s HS.out
    have z2 := filesT_size f hfm
    have g1 : s.size + f.size ≤ 9223372036854775807 := by omega
    have HT2 := Lib.hid ht2; have HU2 := Lib.hid (HU.out.trans hu2)
    clear ht2 hu2 hfm
    go_wp2_with fail
    go_ret
    exact ⟨_, rfl, HF.out, HT2.out, HU2.out⟩
end Go.Proofs.YtkookkhlgllneaaDoor

namespace Go.Proofs.YtkookkhlgllneaaDoor
open Go.RowKit

theorem slice0 (w : World) : (Instr.buildSlice 22 0 #[]).run Tryd.prog w = .ok (.slice (some ⟨w.heap.size, 0, none⟩) 0 0) (w.alloc (.cells #[] 70)) := by kernel_rfl
theorem own_empty (w : World) (B : Nat) (hB : B ≤ w.heap.size) : OwnE (w.alloc (.cells #[] 70)) B (.slice (some ⟨w.heap.size, 0, none⟩) 0 0) [] :=
  ⟨⟨by simp [rowsE], .inr ⟨w.heap.size, 0, #[], rfl, hB, heap_alloc_new w _, Nat.le_refl _, by unfold maxLen; omega, rfl, by simp [rowsE]⟩⟩, by simp⟩
theorem EnsIn.till {w : World} {B : Nat} {sp : Option Addr} {n cap : Nat} {l : List En} (h : EnsIn w B sp n cap l) {k : Nat} (hk : k ≤ n) : EnsIn w B sp k cap (l.take k) :=
  ⟨by rw [List.length_take, h.len]; omega, fun x hx => h.ok x (List.mem_of_mem_take hx), fun hn => by
    obtain ⟨b, off, rfl, hlt, hc, hr⟩ := h.cells (by omega)
    refine ⟨b, off, rfl, hlt, by omega, fun i x hi => hr i x ?_⟩
    rw [List.getElem?_take] at hi
    split at hi
    · exact hi
    · cases hi⟩
theorem run_till {t e : TypeId} {sz : Nat} (ht : Tryd.prog.underlying t = some (.slice e)) (he : (Tryd.prog.info? e).map (·.size) = some sz) (w : World) (sp : Option Addr) (n cap k : Nat) (hk : k ≤ n) (hc : n ≤ cap) :
    (Instr.slice t (.slice sp n cap) none (some (.int .i64 k)) none).run Tryd.prog w = .ok (.slice sp k cap) w := by
  have h1 : (0 : Int) ≤ (k : Int) ∧ (k : Int) ≤ (cap : Int) := ⟨by omega, by omega⟩
  have h2 : k ≤ cap := by omega
  have h3 : (sp.map fun a : Addr => a.add 0) = sp := by cases sp <;> simp [Addr.add]
  simp [Instr.slice, Instr.sliceBounds, Instr.sliceBound, asIntOf, run_underlying ht, sizeOf_of he, h2, h3]
theorem yieldsIf_till {t e : TypeId} {sz : Nat} (ht : Tryd.prog.underlying t = some (.slice e)) (he : (Tryd.prog.info? e).map (·.size) = some sz) {ops : Array Oper} {S : World → Prop} {op : Oper} {a : Act} (hw : Region.wanted op (yielded ops a.tmps) = true) (x hi : Operand) (ho : op.op = .slice t x none (some hi) none)
    (sp : Option Addr) (n cap k : Nat) (hx : a.eval x = .slice sp n cap) (hhi : a.eval hi = .int .i64 k) (hk : k ≤ n) (hc : n ≤ cap) : YieldsIf Tryd.prog ops S op (.slice sp k cap) a :=
  .inl ⟨hw, fun w _ => by
    unfold execOp
    simp only [ho, Option.map_some, Option.map_none, hx, hhi]
    have := run_till ht he w sp n cap k hk hc
    simp [Instr.sliceAt, run_underlying ht, this]⟩
set_option maxRecDepth 100000 in
set_option maxHeartbeats 1000000 in
theorem drop_any (sp : Option Addr) (n cap : Nat) (l : List En) (i : Nat) (w : World) (hl : EnsIn w w.heap.size sp n cap l) (hi : i < n) (hn : n ≤ 400000) :
    Calls Tryd.prog 61 #[.slice sp n cap, .int .i64 i] w fun e w' => ∃ sp' cap', e = .returned (.slice sp' (n - 1) cap') ∧ OwnE w' w.heap.size (.slice sp' (n - 1) cap') (l.take i ++ l.drop (i + 1)) ∧ Below w.heap.size w w' := by
  have HL := Lib.hid hl; clear hl
  obtain ⟨b, off, rfl, hbB, hcap, -⟩ := HL.out.cells (by omega)
  have HKL : Hid (0 + i = ([] ++ l.take i).length) := by show _ = _; rw [List.nil_append, List.length_take, HL.out.len]; omega
  have HKN : Hid (0 + i + (n - (i + 1)) = n - 1) := by show _ = _; omega
  have q1 : IntKind.i64.wrap ((i : Int) + 1) = ((i + 1 : Nat) : Int) := IntWalk.i64_in _ (by omega)
  go_enter Tryd.func61, Tryd.ntmps61
  go_wp2_with fail
  refine wp_region_held_drew (S := fun w' => EnsIn w' w.heap.size (some ⟨b, off, none⟩) n cap l ∧ Below w.heap.size w w') (by kernel_rfl) ⟨HL.out.below ((Below.refl w.heap.size w).drew) (Nat.le_refl _), (Below.refl w.heap.size w).drew⟩ (fun hHeld => ?_)
  refine wpAnyH_take (i := 1) (oi := _) (v := ?v1n1) rfl (by kernel_rfl) (by kernel_rfl) (by kernel_rfl) (fun _ _ _ h => h) (Or.inl ⟨by rfl, ?hy1n1⟩) (by assumption) ?rest1n1
  case hy1n1 =>
    intro w' hSw
    go_simp
    try with_reducible rfl
  try simp only [Act.put, List.getElem_toArray, List.getElem_cons_succ, List.getElem_cons_zero, List.setIfInBounds_toArray, List.set_cons_zero, List.set_cons_succ]
  refine wpAnyH_take (i := 2) (oi := _) (v := ?v2n2) rfl (by kernel_rfl) (by kernel_rfl) (by kernel_rfl) (fun _ _ _ h => h) (Or.inl ⟨by rfl, ?hy2n2⟩) (by assumption) ?rest2n2
  case hy2n2 =>
    intro w' hSw
    go_simp
    try with_reducible rfl
  try simp only [Act.put, List.getElem_toArray, List.getElem_cons_succ, List.getElem_cons_zero, List.setIfInBounds_toArray, List.set_cons_zero, List.set_cons_succ]
  refine' wpAnyH_take (i := 3) (oi := _) (v := _) rfl (by kernel_rfl) (by kernel_rfl) (by kernel_rfl) (fun _ _ _ h => h) (yieldsIf_till Tryd.underlying22 infoE (by rfl) _ _ rfl (some ⟨b, off, none⟩) n cap i rfl rfl (by omega) hcap) (by assumption) ?rest3n3
  try simp only [Act.put, List.getElem_toArray, List.getElem_cons_succ, List.getElem_cons_zero, List.setIfInBounds_toArray, List.set_cons_zero, List.set_cons_succ]
  refine wpAnyH_take (i := 5) (oi := _) (v := ?v5n4) rfl (by kernel_rfl) (by kernel_rfl) (by kernel_rfl) (fun _ _ _ h => h) (Or.inl ⟨by rfl, ?hy5n4⟩) (by assumption) ?rest5n4
  case hy5n4 =>
    intro w' hSw
    go_simp
    try with_reducible rfl
  try simp only [Act.put, List.getElem_toArray, List.getElem_cons_succ, List.getElem_cons_zero, List.setIfInBounds_toArray, List.set_cons_zero, List.set_cons_succ]
  refine wpAnyH_take (i := 6) (oi := _) (v := ?v6n5) rfl (by kernel_rfl) (by kernel_rfl) (by kernel_rfl) (fun _ _ _ h => h) (Or.inl ⟨by rfl, ?hy6n5⟩) (by assumption) ?rest6n5
  case hy6n5 =>
    intro w' hSw
    go_simp
    try with_reducible rfl
  try simp only [Act.put, List.getElem_toArray, List.getElem_cons_succ, List.getElem_cons_zero, List.setIfInBounds_toArray, List.set_cons_zero, List.set_cons_succ]
  refine wpAnyH_take (i := 7) (oi := _) (v := ?v7n6) rfl (by kernel_rfl) (by kernel_rfl) (by kernel_rfl) (fun _ _ _ h => h) (Or.inl ⟨by rfl, ?hy7n6⟩) (by assumption) ?rest7n6
  case hy7n6 =>
    intro w' hSw
    go_simp
    try with_reducible rfl
  try simp only [Act.put, List.getElem_toArray, List.getElem_cons_succ, List.getElem_cons_zero, List.setIfInBounds_toArray, List.set_cons_zero, List.set_cons_succ]
  refine' wpAnyH_take (i := 8) (oi := _) (v := _) rfl (by kernel_rfl) (by kernel_rfl) (by kernel_rfl) (fun _ _ _ h => h) (yieldsIf_cut Tryd.underlying22 infoE (by rfl) _ _ rfl (some ⟨b, off, none⟩) n cap (i + 1) rfl rfl (by omega)) (by assumption) ?rest8n7
  try simp only [Act.put, List.getElem_toArray, List.getElem_cons_succ, List.getElem_cons_zero, List.setIfInBounds_toArray, List.set_cons_zero, List.set_cons_succ]
  refine wpAnyH_ready (rs := [0]) (by kernel_rfl) (by simp) (AllReadyH.cons (o := _) rfl (fun K hK => ?_) AllReadyH.nil)
  rw [if_pos (by rfl)]
  refine wp_slice_eqS 22 0 [] rfl [] rfl _ _ (slice0 _) ?_
  generalize hw3 : World.alloc w.drew _ = w3
  have ho3 : OwnE w3 w.heap.size (.slice (some ⟨w.heap.size, 0, none⟩) 0 0) [] := by rw [← hw3]; exact own_empty w.drew _ (Nat.le_refl _)
  have hb3 : Below w.heap.size w w3 := by rw [← hw3]; exact ((Below.refl _ w).drew).alloc (Nat.le_refl _) _
  have HO3 := Lib.hid ho3
  have HB3 := Lib.hid hb3
  clear hw3 ho3 hb3
  refine hK.out _ _ ⟨HL.out.below HB3.out (Nat.le_refl _), HB3.out⟩ (fun hHeld => ?_)
  clear hK K
  try simp only [Act.put, List.getElem_toArray, List.getElem_cons_succ, List.getElem_cons_zero, List.setIfInBounds_toArray, List.set_cons_zero, List.set_cons_succ]
  refine wpAnyH_ready (rs := [4]) (by kernel_rfl) (by simp) (AllReadyH.cons (o := _) rfl (fun K hK => ?_) AllReadyH.nil)
  rw [if_pos (by rfl)]
  refine wp_appendsEnS (.tmp 5) (.tmp 8) rfl w.heap.size _ [] 0 rfl rfl HO3.out (some ⟨b, off, none⟩) i cap rfl ((HL.out.below HB3.out (Nat.le_refl _)).till (by omega)) (by intro h; cases h) (by omega) (by omega) HB3.out.size ?_
  intro sp4 cap4 w4 HO4 HB4
  have HB5 := Lib.hid (HB3.out.trans HB4.out)
  refine hK.out _ _ ⟨HL.out.below HB5.out (Nat.le_refl _), HB5.out⟩ (fun hHeld => ?_)
  clear hK K
  try simp only [Act.put, List.getElem_toArray, List.getElem_cons_succ, List.getElem_cons_zero, List.setIfInBounds_toArray, List.set_cons_zero, List.set_cons_succ]
  refine wpAnyH_ready (rs := [9]) (by kernel_rfl) (by simp) (AllReadyH.cons (o := _) rfl (fun K hK => ?_) AllReadyH.nil)
  rw [if_pos (by rfl)]
  refine wp_appendsEnS (.tmp 9) (.tmp 13) rfl w.heap.size _ _ (0 + i) HKL.out rfl HO4.out _ (n - (i + 1)) (cap - (i + 1)) rfl ((HL.out.below HB5.out (Nat.le_refl _)).cut (by omega)) (by rw [slP_none]; intro h; cases h) (by omega) (by omega) HB5.out.size ?_
  intro sp6 cap6 w6 HO6 HB6
  have HB7 := Lib.hid (HB5.out.trans HB6.out)
  refine hK.out _ _ ⟨HL.out.below HB7.out (Nat.le_refl _), HB7.out⟩ (fun hHeld => ?_)
  clear hK K
  try simp only [Act.put, List.getElem_toArray, List.getElem_cons_succ, List.getElem_cons_zero, List.setIfInBounds_toArray, List.set_cons_zero, List.set_cons_succ]
  refine wpAnyH_take (i := 10) (oi := _) (v := ?v10n8) rfl (by kernel_rfl) (by kernel_rfl) (by kernel_rfl) (fun _ _ _ h => h) (Or.inl ⟨by rfl, ?hy10n8⟩) (by assumption) ?rest10n8
  case hy10n8 =>
    intro w' hSw
    go_simp
    try with_reducible rfl
  try simp only [Act.put, List.getElem_toArray, List.getElem_cons_succ, List.getElem_cons_zero, List.setIfInBounds_toArray, List.set_cons_zero, List.set_cons_succ]
  refine wpAnyH_done (by kernel_rfl) ?_ _
  clear hHeld
  go_wp2_with fail
  go_ret
  rw [HKN.out] at HO6
  refine ⟨sp6, cap6, by show Ending.returned (.slice sp6 (i + (n - (i + 1))) cap6) = _; rw [show i + (n - (i + 1)) = n - 1 by omega], HO6.out, HB7.out⟩
end Go.Proofs.YtkookkhlgllneaaDoor

namespace Go.Proofs.YtkookkhlgllneaaDoor
open Go.RowKit

/-- what stands at a place, x at place k of F -/
def posL (F : List En) (x : En) (k i : Nat) : Option En := if i < k then F[i]? else if i = k then some x else F[i - 1]?
theorem posL_lt {F : List En} {x y : En} {k i : Nat} (h : i < k) (hy : F[i]? = some y) : posL F x k i = some y := by unfold posL; rw [if_pos h]; exact hy
theorem posL_at {F : List En} {x : En} {k : Nat} : posL F x k k = some x := by unfold posL; rw [if_neg (Nat.lt_irrefl _), if_pos rfl]
theorem posL_list (F : List En) (x : En) (k : Nat) (hk : k ≤ F.length) (i : Nat) : (F.take k ++ x :: F.drop k)[i]? = posL F x k i := by
  unfold posL
  have hl : (F.take k).length = k := by rw [List.length_take]; omega
  by_cases h : i < k
  · rw [if_pos h, List.getElem?_append_left (by omega), List.getElem?_take, if_pos h]
  · rw [if_neg h, List.getElem?_append_right (by omega), hl]
    by_cases h2 : i = k
    · subst h2; rw [if_pos rfl, Nat.sub_self]; rfl
    · rw [if_neg h2, show i - k = (i - k - 1) + 1 by omega, List.getElem?_cons_succ, List.getElem?_drop, show k + (i - k - 1) = i - 1 by omega]
theorem posL_swap {F : List En} {x : En} {k i : Nat} (h1 : i ≠ k) (h2 : i ≠ k + 1) : posL F x k i = posL F x (k + 1) i := by
  unfold posL
  by_cases h : i < k
  · rw [if_pos h, if_pos (by omega)]
  · rw [if_neg h, if_neg h1, if_neg (by omega), if_neg h2]
theorem posL_up {F : List En} {x : En} {k : Nat} : posL F x k (k + 1) = F[k]? := by
  unfold posL; rw [if_neg (by omega), if_neg (by omega), Nat.add_sub_cancel]
/-- the list in block g -/
structure RwP (w : World) (g N : Nat) (F : List En) (x : En) (k : Nat) : Prop where
  rng : ∀ i z, posL F x k i = some z → w.rangeAt g (i * 33) (enL z)
  there : w.there g 0 (N * 33)
theorem RwP.lt {w : World} {g N : Nat} {F : List En} {x : En} {k : Nat} (h : RwP w g N F x k) : g < w.heap.size := World.block_lt_of_cell? w _ (h.rng k x posL_at 0 _ rfl)
theorem there_below {w w' : World} {b o n : Nat} (h : w.there b o n) (hb : Below w.heap.size w w') (hlt : b < w.heap.size) : w'.there b o n := fun j hj =>
  ⟨by rw [hb.cell (p := ⟨b, o + j, none⟩) hlt]; exact (h j hj).1, by rw [hb.frozen (p := ⟨b, o + j, none⟩) hlt]; exact (h j hj).2⟩
theorem RwP.below {w w' : World} {g N : Nat} {F : List En} {x : En} {k : Nat} (h : RwP w g N F x k) (hb : Below w.heap.size w w') : RwP w' g N F x k :=
  ⟨fun i z hi => range_belowS (h.rng i z hi) hb h.lt, there_below h.there hb h.lt⟩
theorem there_sub {w : World} {g N i : Nat} (h : w.there g 0 (N * 33)) (hi : i < N) : w.there g (i * 33) 33 := fun j hj => by
  have := h (i * 33 + j) (by omega)
  simpa using this
theorem RwP.swap {w : World} {g N : Nat} {F : List En} {x y : En} {k : Nat} (h : RwP w g N F x (k + 1)) (hN : F.length + 1 = N) (hy : F[k]? = some y) (hF : ∀ z ∈ F, OkE z) (hx : OkE x) :
    RwP ((w.setCells g ((k + 1) * 33) (enL y)).setCells g (k * 33) (enL x)) g N F x k := by
  have hkl := (List.getElem?_eq_some_iff.1 hy).1
  have hyo := hF y (List.mem_of_getElem? hy)
  refine ⟨fun i z hi => ?_, World.there_setCells (World.there_setCells h.there _ _ _) _ _ _⟩
  have hz : OkE z := by
    unfold posL at hi
    split at hi
    · exact hF z (List.mem_of_getElem? hi)
    · split at hi
      · injection hi with hi; rw [← hi]; exact hx
      · exact hF z (List.mem_of_getElem? hi)
  have l1 := enL_length hx
  have l2 := enL_length hyo
  have l3 := enL_length hz
  by_cases h1 : i = k
  · subst h1
    rw [posL_at] at hi; injection hi with hi; subst hi
    refine World.rangeAt_setCells_same _ _ _ _ ?_
    rw [l1]
    exact there_sub (World.there_setCells h.there _ _ _) (by omega)
  · by_cases h2 : i = k + 1
    · subst h2
      rw [posL_up, hy] at hi; injection hi with hi; subst hi
      refine World.rangeAt_setCells_apart (World.rangeAt_setCells_same _ _ _ _ ?_) _ _ _ (.inr (.inr (by omega)))
      rw [l2]
      exact there_sub h.there (by omega)
    · rw [posL_swap h1 h2] at hi
      exact World.rangeAt_setCells_apart (World.rangeAt_setCells_apart (h.rng i z hi) _ _ _ (by omega)) _ _ _ (by omega)
theorem own_rw {w : World} {B : Nat} {v : Value} {F : List En} {x : En} (h : OwnE w B v (F ++ [x])) : ∃ g cap, v = .slice (some ⟨g, 0, none⟩) (F.length + 1) cap ∧ B ≤ g ∧ F.length + 1 ≤ cap ∧ RwP w g (F.length + 1) F x F.length := by
  obtain ⟨sp, cap, rfl⟩ := h.shape
  have hn : (F ++ [x]).length = F.length + 1 := by simp
  obtain ⟨_, ⟨e, e0⟩ | ⟨g, cap', cur, e, hB, hg, hle, _, hsz, _⟩⟩ := h.1
  · simp at e0
  · injection e with e1 e2 e3
    subst e1; subst e3
    have hens := (own_range (f := enL) h.1 (fun z hz => enL_length (h.2 z hz)) rfl)
    refine ⟨g, cap, by rw [hn], hB, by omega, fun i z hi => ?_, fun j hj => ?_⟩
    · have h3 := hens.2.2 i z (by
        have := posL_list F x F.length (Nat.le_refl _) i
        rw [List.take_length, List.drop_length] at this
        rw [this]; exact hi)
      rw [Nat.zero_add] at h3
      exact h3
    · have hj2 : j < cur.size := by
        have : (F.length + 1) * 33 ≤ cap * 33 := Nat.mul_le_mul_right _ (by omega)
        omega
      refine ⟨?_, frozen_of_row w g _ cur _ hg⟩
      rw [cell_of_row w g _ cur _ _ hg]
      simp [hj2]
theorem RwP.ens {w : World} {g N cap : Nat} {F : List En} {x : En} {k : Nat} (h : RwP w g N F x k) (hN : F.length + 1 = N) (hk : k ≤ F.length) (hF : ∀ z ∈ F, OkE z) (hx : OkE x) (hc : N ≤ cap) : EnsIn w w.heap.size (some ⟨g, 0, none⟩) N cap (F.take k ++ x :: F.drop k) :=
  ⟨by simp; omega, fun z hz => by
    rcases List.mem_append.1 hz with hz | hz
    · exact hF z (List.mem_of_mem_take hz)
    · rcases List.mem_cons.1 hz with rfl | hz
      · exact hx
      · exact hF z (List.mem_of_mem_drop hz), fun _ => ⟨g, 0, rfl, h.lt, hc, fun i z hi => by
    rw [posL_list F x k hk] at hi
    rw [Nat.zero_add]; exact h.rng i z hi⟩⟩
/-- the list without a path -/
def sansP (s : List En) (p : ByteArray) : List En := s.filter fun y => !decide (y.p = p)
theorem put_ins {F : List En} {x : En} {k : Nat} (hs : Srt En.p F) (hk : k ≤ F.length) (hne : ∀ y ∈ F, y.p ≠ x.p) (h1 : ∀ y ∈ F.drop k, pls x.p y.p = true) (h2 : ∀ j y, k = j + 1 → F[j]? = some y → pls x.p y.p = false) : ins En.p F x = F.take k ++ x :: F.drop k := by
  have e : F = F.take k ++ F.drop k := (List.take_append_drop k F).symm
  rw [ins_at (f := En.p) (a := F.take k) (b := F.drop k) (x := x) ?_ e ?_, List.append_assoc]
  · rfl
  · cases k with
    | zero => rfl
    | succ j =>
      obtain ⟨y, hy⟩ : ∃ y, F[j]? = some y := ⟨F[j]'(by omega), List.getElem?_eq_getElem _⟩
      have hyx : pls y.p x.p = true := by
        by_cases h : pls y.p x.p = true
        · exact h
        · exact absurd (pls_tri (by simpa using h) (h2 j y rfl hy)) (hne y (List.mem_of_getElem? hy))
      rw [List.all_eq_true]
      intro z hz
      rw [List.take_add_one, hy] at hz
      rcases List.mem_append.1 hz with hz | hz
      · obtain ⟨i, hi, rfl⟩ := List.getElem_of_mem hz
        have hi2 : i < j := by rw [List.length_take] at hi; omega
        have h3 := List.pairwise_iff_getElem.1 hs i j (by omega) (by omega) hi2
        rw [List.getElem_take]
        have e2 : F[j]'(by omega) = y := (List.getElem?_eq_some_iff.1 hy).2
        rw [e2] at h3
        exact pls_trans h3 hyx
      · have : z = y := by simpa using hz
        rw [this]; exact hyx
  · cases hd : F.drop k with
    | nil => rfl
    | cons z t =>
      have := h1 z (by rw [hd]; exact List.mem_cons_self)
      simp [pls_asymm this]
theorem below_setCells {B : Nat} {a w : World} (h : Below B a w) {g : Nat} (hg : B ≤ g) (o : Nat) (vs : List Value) : Below B a (w.setCells g o vs) := by
  induction vs generalizing w o with
  | nil => exact h
  | cons v vs ih => exact ih (h.setCell (p := ⟨g, o, none⟩) hg v) (o + 1)
theorem there_en {w : World} {g N i : Nat} {z : En} (h : w.there g 0 (N * 33)) (hi : i < N) (hz : OkE z) : w.there g (i * 33) (enL z).toArray.size := by rw [List.size_toArray, enL_length hz]; exact there_sub h hi
theorem sansP_ne {s : List En} {p : ByteArray} : ∀ y ∈ sansP s p, y.p ≠ p := fun y hy e => by
  unfold sansP at hy
  have := (List.mem_filter.1 hy).2
  simp [e] at this
theorem sansP_ok {s : List En} {p : ByteArray} (h : ∀ y ∈ s, OkE y) : ∀ y ∈ sansP s p, OkE y := fun y hy => h y (List.mem_filter.1 hy).1
theorem sansP_srt {s : List En} {p : ByteArray} (h : Srt En.p s) : Srt En.p (sansP s p) := List.Pairwise.filter _ h
theorem sansP_len (s : List En) (p : ByteArray) : (sansP s p).length ≤ s.length := List.length_filter_le _ _
/-- the snapshot in which a path has a digest -/
def putT (s : List En) (x : En) : List En := ins En.p (sansP s x.p) x
set_option maxRecDepth 100000 in
set_option maxHeartbeats 2000000 in
theorem Put_any (sp : Option Addr) (n cap : Nat) (l : List En) (x : En) (w : World) (hl : EnsIn w w.heap.size sp n cap l) (hs : Srt En.p l) (hx : OkE x) (hn : n ≤ 400000) :
    Calls Tryd.prog 58 #[.slice sp n cap, .agg (enL x).toArray] w fun e w' => ∃ g n' cap', e = .returned (.slice (some ⟨g, 0, none⟩) n' cap') ∧ w.heap.size ≤ g ∧ EnsIn w' w'.heap.size (some ⟨g, 0, none⟩) n' cap' (putT l x) ∧ Below w.heap.size w w' := by
  have HL := Lib.hid hl; have HOX := Lib.hid hx; have HSR := Lib.hid hs
  have HIX := Lib.hid (info_e hx)
  have HNW := Lib.hid (EnB.new w x)
  have hb0 : Below w.heap.size w (w.alloc (.cells (enL x).toArray 70)) := (Below.refl _ w).alloc (Nat.le_refl _) _
  have HB0 := Lib.hid hb0
  clear hl hx hb0 hs
  go_enter Tryd.func58, Tryd.ntmps58
  go_wp2_with fail
  generalize hw0 : World.alloc w _ = w0
  have hx0 : EnB w0 w.heap.size x := by rw [← hw0]; exact HNW.out
  have hbl0 : Below w.heap.size w w0 := by rw [← hw0]; exact HB0.out
  have hs0 : w.heap.size + 1 ≤ w0.heap.size := by rw [← hw0]; simp
  have HBX := Lib.hid hx0; have HBL0 := Lib.hid hbl0
  have HL := Lib.hid (HL.out.below hbl0 (Nat.le_refl _))
  clear hw0 hx0 hbl0 HNW HB0
  go_loopw [5, 6] (fun v i wr => ∃ (k N : Nat) (out : List En) (sp' : Option Addr) (cap' : Nat), k ≤ n ∧ N ≤ k ∧ i = .int .i64 k ∧ v = .slice sp' N cap' ∧ Hid (N = out.length) ∧ Hid (OwnE wr (w.heap.size + 1) (.slice sp' N cap') out) ∧ Hid (sansP (l.take k) x.p = out) ∧ Hid (Below (w.heap.size + 1) w0 wr)) (fun _ i _ => n - (intOf i).toNat)
  case atStart => exact ⟨0, 0, [], _, _, Nat.zero_le _, Nat.le_refl _, rfl, rfl, rfl, OwnE.nil _ _, rfl, Below.refl _ _⟩
  case round =>
  obtain ⟨k, N, out, sp', cap', hk, hNk, rfl, rfl, HN, hown, HG, hbe⟩ := hrel
  have hbs : w.heap.size + 1 ≤ wr.heap.size := Nat.le_trans hs0 hbe.out.size
  have hxp := (HBX.out.below hbe.out (Nat.lt_succ_self _)).p
  by_cases hlt : k < n
  · obtain ⟨y, hy⟩ : ∃ y, l[k]? = some y := ⟨l[k]'(by have := HL.out.len; omega), List.getElem?_eq_getElem _⟩
    have hd : decide ((k : Int) < (n : Int)) = true := by simp; omega
    obtain ⟨b, off, rfl, hbB, hcap, -⟩ := HL.out.cells (by omega)
    have hyr := range_belowS (HL.out.at hy).2 hbe.out (by omega)
    have hyp := rngE_p hyr
    have HYR := Lib.hid hyr
    have HOY := Lib.hid (HL.out.ok y (List.mem_of_getElem? hy))
    have HIY := Lib.hid (info_e HOY.out)
    have HST : Hid (sansP (l.take (k + 1)) x.p = if y.p = x.p then out else out ++ [y]) := by
      show _ = _
      unfold sansP
      rw [List.take_add_one, hy, List.filter_append]
      show sansP (l.take k) x.p ++ List.filter _ [y] = _
      rw [HG.out, List.filter_cons, List.filter_nil]
      by_cases h : y.p = x.p <;> simp [h]
    have p1 : (0 : Int) ≤ (k : Int) := by omega
    have p2 : (k : Int) < (n : Int) := by omega
    clear hy hyr
    by_cases hxe : y.p = x.p
    · have hte : (y.p.toList == x.p.toList) = true := by rw [hxe]; simp
      have HST2 : Hid (sansP (l.take (k + 1)) x.p = out) := by show _ = _; rw [HST.out, if_pos hxe]
      clear hxe
      go_wp2_with fail
      go_quiet (fail)
      generalize hwd : World.drewN wr nq = wd
      have hbd : Below wr.heap.size wr wd := by rw [← hwd]; exact ⟨rfl, rfl, rfl, Nat.le_refl _, fun _ _ => rfl⟩
      have HBD := Lib.hid (hbe.out.trans (hbd.mono hbs))
      have HOD := Lib.hid (hown.out.below hbd)
      clear hwd hbd
      go_wp2_with fail
      go_roundw
      case rel => exact ⟨k + 1, N, out, sp', cap', by omega, by omega, by go_num, rfl, HN, HOD, HST2, HBD⟩
      case measure => simp [intOf]; omega
    · have hte : (y.p.toList == x.p.toList) = false := by rw [beq_eq_false_iff_ne]; exact fun e => hxe (toList_inj e)
      have HST2 : Hid (sansP (l.take (k + 1)) x.p = out ++ [y]) := by show _ = _; rw [HST.out, if_neg hxe]
      clear hxe
      go_wp2_with fail
      go_quiet (fail)
      generalize hwd : World.drewN wr nq = wd
      have hbd : Below wr.heap.size wr wd := by rw [← hwd]; exact ⟨rfl, rfl, rfl, Nat.le_refl _, fun _ _ => rfl⟩
      have hsd : wd.heap.size = wr.heap.size := by rw [← hwd]; rfl
      have HBD := Lib.hid (hbe.out.trans (hbd.mono hbs))
      have HOD := Lib.hid (hown.out.below hbd)
      have HYD := Lib.hid (range_belowS HYR.out hbd (by omega))
      have hbsd : w.heap.size + 1 ≤ wd.heap.size := by omega
      clear hwd hbd hsd hxp hyp
      go_wp2_with (first
        | (refine wpList_load_mid rfl 70 _ rfl b (off + k * 33) rfl _ _ HYD.out Tryd.underlying70 rfl HIY.out ?_)
        | (refine wpList_slice_eq rfl 22 1 [(0, .tmp 26)] rfl [(0, .agg (enL y).toArray)] rfl _ _ (sliceE _ y HOY.out) ?_; generalize hw4 : World.alloc wd _ = w4; have he4 : EnB w4 wd.heap.size y := (by rw [← hw4]; exact heap_alloc_new _ _); have hb4 : Below wd.heap.size wd w4 := (by rw [← hw4]; exact (Below.refl _ _).alloc (Nat.le_refl _) _); have HE4 := Lib.hid he4; have HW4 := Lib.hid (HBD.out.trans (hb4.mono hbsd)); have HO4 := Lib.hid (HOD.out.below hb4); have hz4 := Nat.le_trans hbsd hb4.size; clear hw4 he4 hb4)
        | (at_builtin; refine wpList_append_en rfl (.tmp 22) (.tmp 27) rfl (w.heap.size + 1) _ _ N HN.out rfl HO4.out wd.heap.size y rfl HE4.out HOY.out (by omega) hz4 ?_; intro sp5 cap5 w5 HO5 HB5 HG5))
      have HB6 := Lib.hid (HW4.out.trans HB5.out)
      go_roundw
      case rel => exact ⟨k + 1, N + 1, out ++ [y], sp5, cap5, by omega, by omega, by go_num, rfl, by show _ = _; rw [List.length_append, HN.out]; rfl, HO5, HST2, HB6⟩
      case measure => simp [intOf]; omega
  · obtain rfl : k = n := by omega
    have hd : decide ((k : Int) < (k : Int)) = false := by simp
    have HF : Hid (sansP l x.p = out) := by have := HG.out; rw [List.take_of_length_le (by rw [HL.out.len]; exact Nat.le_refl _)] at this; exact this
    clear hlt
    have HXR := Lib.hid (HBX.out.below hbe.out (Nat.lt_succ_self _)).all
    clear hxp
    go_wp2_with (first
      | (refine wpList_load_mid rfl 70 _ rfl w.heap.size 0 rfl _ _ HXR.out Tryd.underlying70 rfl HIX.out ?_)
      | (refine wpList_slice_eq rfl 22 1 [(0, .tmp 30)] rfl [(0, .agg (enL x).toArray)] rfl _ _ (sliceE _ x HOX.out) ?_; generalize hw4 : World.alloc wr _ = w4; have he4 : EnB w4 wr.heap.size x := (by rw [← hw4]; exact heap_alloc_new _ _); have hb4 : Below wr.heap.size wr w4 := (by rw [← hw4]; exact (Below.refl _ _).alloc (Nat.le_refl _) _); have HE4 := Lib.hid he4; have HW4 := Lib.hid (hbe.out.trans (hb4.mono hbs)); have HO4 := Lib.hid (hown.out.below hb4); have hz4 := Nat.le_trans hbs hb4.size; clear hw4 he4 hb4)
      | (at_builtin; refine wpList_append_en rfl (.tmp 29) (.tmp 31) rfl (w.heap.size + 1) _ _ N HN.out rfl HO4.out wr.heap.size x rfl HE4.out HOX.out (by omega) hz4 ?_; intro sp5 cap5 w5 HO5 HB5 HG5))
    obtain ⟨g, cap2, hv, hBg, hcap5, hrw⟩ := own_rw HO5.out
    injection hv with hv1 hv2 hv3
    subst hv1
    subst hv3
    have HB6 := Lib.hid (HW4.out.trans HB5.out)
    have HRW0 : Hid (RwP w5 g (N + 1) out x N) := by show RwP _ _ _ _ _ _; rw [HN.out]; exact hrw
    have HCP : Hid (N + 1 ≤ cap5) := by show _ ≤ _; rw [HN.out]; exact hcap5
    have hgB : w.heap.size + 1 ≤ g := hBg
    have HOO : Hid (∀ z ∈ out, OkE z) := by show ∀ z ∈ out, OkE z; rw [← HF.out]; exact sansP_ok HL.out.ok
    have HNE : Hid (∀ z ∈ out, z.p ≠ x.p) := by show ∀ z ∈ out, z.p ≠ x.p; rw [← HF.out]; exact sansP_ne
    have HSO : Hid (Srt En.p out) := by show Srt En.p out; rw [← HF.out]; exact sansP_srt HSR.out
    have HPT : Hid (putT l x = ins En.p out x) := by show _ = _; unfold putT; rw [HF.out]
    have hkk : N ≤ 400000 := by omega
    clear hv2 hrw HO4 HE4 HW4 hz4 HG5 hown hbe hd HXR
    go_loopw [7] (fun i wr => ∃ q : Nat, i = .int .i64 q ∧ q ≤ N ∧ Hid (RwP wr g (N + 1) out x q) ∧ Hid (∀ y ∈ out.drop q, pls x.p y.p = true) ∧ Hid (Below (w.heap.size + 1) w0 wr)) (fun i _ => (intOf i).toNat)
    case atStart => exact ⟨N, by go_num, Nat.le_refl _, HRW0, by show ∀ y ∈ out.drop N, _; rw [HN.out, List.drop_length]; intro y hy; (cases hy), HB6⟩
    case round =>
    clear HRW0 HB6
    obtain ⟨q, rfl, hq, HRW, HDR, hbe⟩ := hrel
    have HEND : Hid (∀ wd, Below wr.heap.size wr wd → (∀ j y, q = j + 1 → out[j]? = some y → pls x.p y.p = false) → EnsIn wd wd.heap.size (some ⟨g, 0, none⟩) (N + 1) cap5 (putT l x) ∧ Below w.heap.size w wd) := by
      intro wd hb h2
      have e := put_ins HSO.out (by rw [← HN.out]; exact hq) HNE.out HDR.out h2
      rw [HPT.out, e]
      have hbw : Below w.heap.size w wr := HBL0.out.trans (hbe.out.mono (Nat.le_succ _))
      exact ⟨(HRW.out.below hb).ens (by rw [HN.out]) (by rw [← HN.out]; exact hq) HOO.out HOX.out HCP.out, hbw.trans (hb.mono hbw.size)⟩
    have hbs2 : w.heap.size + 1 ≤ wr.heap.size := Nat.le_trans hs0 hbe.out.size
    cases q with
    | zero =>
      have hd0 : decide ((0 : Int) > 0) = false := by simp
      go_wp2_with fail
      go_quiet (fail)
      generalize hwd : World.drewN wr nq = wd
      have hbd : Below wr.heap.size wr wd := by rw [← hwd]; exact ⟨rfl, rfl, rfl, Nat.le_refl _, fun _ _ => rfl⟩
      have HE := Lib.hid (HEND.out wd hbd (fun j y h => by omega))
      clear hwd hbd
      go_wp2_with fail
      go_ret
      exact ⟨g, _, _, rfl, by omega, HE.out.1, HE.out.2⟩
    | succ j =>
      obtain ⟨y, hy⟩ : ∃ y, out[j]? = some y := ⟨out[j]'(by have := HN.out; omega), List.getElem?_eq_getElem _⟩
      have HY := Lib.hid hy
      have HOY := Lib.hid (HOO.out y (List.mem_of_getElem? hy))
      have HIY := Lib.hid (info_e HOY.out)
      have hyp := rngE_p (HRW.out.rng j y (posL_lt (Nat.lt_succ_self _) hy))
      have hxp := rngE_p (HRW.out.rng (j + 1) x posL_at)
      have q1 : IntKind.i64.wrap (j : Int) = (j : Int) := IntWalk.i64_in _ (by omega)
      have q6 : ((j : Int) + 1).toNat = j + 1 := by omega
      have p1 : (0 : Int) ≤ (j : Int) + 1 := by omega
      have p2 : (j : Int) + 1 < (N : Int) + 1 := by omega
      have p3 : (0 : Int) ≤ (j : Int) := by omega
      have p4 : (j : Int) < (N : Int) + 1 := by omega
      have p5 : (0 : Int) < (j : Int) + 1 := by omega
      have hd1 : decide ((j : Int) + 1 > 0) = true := decide_eq_true (by omega)
      clear hy
      obtain ⟨c, hc⟩ : ∃ c, pls x.p y.p = c := ⟨_, rfl⟩
      have hlt2 : Op.bytesLess x.p.toList y.p.toList = c := hc
      have HC := Lib.hid hc
      clear hc
      rw [show ((j + 1 : Nat) : Int) = (j : Int) + 1 from by omega]
      go_wp2_with fail
      go_quiet (fail)
      generalize hwd : World.drewN wr nq = wd
      have hbd : Below wr.heap.size wr wd := by rw [← hwd]; exact ⟨rfl, rfl, rfl, Nat.le_refl _, fun _ _ => rfl⟩
      have HBDR := Lib.hid hbd
      clear hwd hbd hlt2
      cases c with
      | false =>
        have HE := Lib.hid (HEND.out wd HBDR.out (fun j' y' h h2 => by
          have : j' = j := by omega
          subst this
          rw [HY.out] at h2; injection h2 with h2; rw [← h2]; exact HC.out))
        go_wp2_with fail
        go_ret
        exact ⟨g, _, _, rfl, by omega, HE.out.1, HE.out.2⟩
      | true =>
        have HRWD := Lib.hid (HRW.out.below (HBDR.out.drew))
        have HB9 := Lib.hid ((hbe.out.trans (HBDR.out.mono hbs2)).drew)
        have HIYs : Hid ((Tryd.prog.info? 70).map (·.size) = some (enL y).toArray.size) := by show _ = _; rw [List.size_toArray]; exact HIY.out
        have HIXs : Hid ((Tryd.prog.info? 70).map (·.size) = some (enL x).toArray.size) := by show _ = _; rw [List.size_toArray]; exact HIX.out
        have HRW2 : Hid (RwP ((wd.drew.setCells g ((j + 1) * 33) (enL y).toArray.toList).setCells g (j * 33) (enL x).toArray.toList) g (N + 1) out x j) := HRWD.out.swap (by rw [HN.out]) HY.out HOO.out HOX.out
        have HBW2 : Hid (Below (w.heap.size + 1) w0 ((wd.drew.setCells g ((j + 1) * 33) (enL y).toArray.toList).setCells g (j * 33) (enL x).toArray.toList)) := below_setCells (below_setCells HB9.out hgB _ _) hgB _ _
        have HDR2 : Hid (∀ y ∈ out.drop j, pls x.p y.p = true) := by
          show ∀ y ∈ out.drop j, pls x.p y.p = true
          intro z hz
          have hjl := (List.getElem?_eq_some_iff.1 HY.out).1
          rw [List.drop_eq_getElem_cons hjl] at hz
          rcases List.mem_cons.1 hz with h | h
          · rw [h, (List.getElem?_eq_some_iff.1 HY.out).2]; exact HC.out
          · exact HDR.out z h
        clear hyp hxp
        go_wp2_with fail
        refine wp_region_held_drew (S := fun w' => True) (by kernel_rfl) trivial (fun hHeld => ?_)
        refine wpAnyH_take (i := 0) (oi := _) (v := ?v0n1) rfl (by kernel_rfl) (by kernel_rfl) (by kernel_rfl) (fun _ _ _ h => h) (Or.inl ⟨by rfl, ?hy0n1⟩) (by assumption) ?rest0n1
        case hy0n1 =>
          intro w' hSw
          go_simp
          try with_reducible rfl
        try simp only [Act.put, List.getElem_toArray, List.getElem_cons_succ, List.getElem_cons_zero, List.setIfInBounds_toArray, List.set_cons_zero, List.set_cons_succ]
        refine wpAnyH_take (i := 1) (oi := _) (v := ?v1n2) rfl (by kernel_rfl) (by kernel_rfl) (by kernel_rfl) (fun _ _ _ h => h) (Or.inl ⟨by rfl, ?hy1n2⟩) (by assumption) ?rest1n2
        case hy1n2 =>
          intro w' hSw
          go_simp
          try with_reducible rfl
        try simp only [Act.put, List.getElem_toArray, List.getElem_cons_succ, List.getElem_cons_zero, List.setIfInBounds_toArray, List.set_cons_zero, List.set_cons_succ]
        refine wpAnyH_take (i := 2) (oi := _) (v := ?v2n3) rfl (by kernel_rfl) (by kernel_rfl) (by kernel_rfl) (fun _ _ _ h => h) (Or.inl ⟨by rfl, ?hy2n3⟩) (by assumption) ?rest2n3
        case hy2n3 =>
          intro w' hSw
          go_simp
          try with_reducible rfl
        try simp only [Act.put, List.getElem_toArray, List.getElem_cons_succ, List.getElem_cons_zero, List.setIfInBounds_toArray, List.set_cons_zero, List.set_cons_succ]
        refine wpAnyH_take (i := 3) (oi := _) (v := ?v3n4) rfl (by kernel_rfl) (by kernel_rfl) (by kernel_rfl) (fun _ _ _ h => h) (Or.inl ⟨by rfl, ?hy3n4⟩) (by assumption) ?rest3n4
        case hy3n4 =>
          intro w' hSw
          go_simp
          try with_reducible rfl
        try simp only [Act.put, List.getElem_toArray, List.getElem_cons_succ, List.getElem_cons_zero, List.setIfInBounds_toArray, List.set_cons_zero, List.set_cons_succ]
        refine wpAnyH_take (i := 4) (oi := _) (v := ?v4n5) rfl (by kernel_rfl) (by kernel_rfl) (by kernel_rfl) (fun _ _ _ h => h) (Or.inl ⟨by rfl, ?hy4n5⟩) (by assumption) ?rest4n5
        case hy4n5 =>
          intro w' hSw
          go_simp
          try with_reducible rfl
        try simp only [Act.put, List.getElem_toArray, List.getElem_cons_succ, List.getElem_cons_zero, List.setIfInBounds_toArray, List.set_cons_zero, List.set_cons_succ]
        refine wpAnyH_take (i := 5) (oi := _) (v := ?v5n6) rfl (by kernel_rfl) (by kernel_rfl) (by kernel_rfl) (fun _ _ _ h => h) (Or.inl ⟨by rfl, ?hy5n6⟩) (by assumption) ?rest5n6
        case hy5n6 =>
          intro w' hSw
          go_simp
          try with_reducible rfl
        try simp only [Act.put, List.getElem_toArray, List.getElem_cons_succ, List.getElem_cons_zero, List.setIfInBounds_toArray, List.set_cons_zero, List.set_cons_succ]
        refine wpAnyH_take (i := 6) (oi := _) (v := ?v6n7) rfl (by kernel_rfl) (by kernel_rfl) (by kernel_rfl) (fun _ _ _ h => h) (Or.inl ⟨by rfl, ?hy6n7⟩) (by assumption) ?rest6n7
        case hy6n7 =>
          intro w' hSw
          go_simp
          try with_reducible rfl
        try simp only [Act.put, List.getElem_toArray, List.getElem_cons_succ, List.getElem_cons_zero, List.setIfInBounds_toArray, List.set_cons_zero, List.set_cons_succ]
        refine wpAnyH_take (i := 7) (oi := _) (v := ?v7n8) rfl (by kernel_rfl) (by kernel_rfl) (by kernel_rfl) (fun _ _ _ h => h) (Or.inl ⟨by rfl, ?hy7n8⟩) (by assumption) ?rest7n8
        case hy7n8 =>
          intro w' hSw
          go_simp
          try with_reducible rfl
        try simp only [Act.put, List.getElem_toArray, List.getElem_cons_succ, List.getElem_cons_zero, List.setIfInBounds_toArray, List.set_cons_zero, List.set_cons_succ]
        refine wpAnyH_take (i := 8) (oi := _) (v := ?v8n9) rfl (by kernel_rfl) (by kernel_rfl) (by kernel_rfl) (fun _ _ _ h => h) (Or.inl ⟨by rfl, ?hy8n9⟩) (by assumption) ?rest8n9
        case hy8n9 =>
          intro w' hSw
          go_simp
          try with_reducible rfl
        try simp only [Act.put, List.getElem_toArray, List.getElem_cons_succ, List.getElem_cons_zero, List.setIfInBounds_toArray, List.set_cons_zero, List.set_cons_succ]
        refine wpAnyH_take (i := 10) (oi := _) (v := ?v10n10) rfl (by kernel_rfl) (by kernel_rfl) (by kernel_rfl) (fun _ _ _ h => h) (Or.inl ⟨by rfl, ?hy10n10⟩) (by assumption) ?rest10n10
        case hy10n10 =>
          intro w' hSw
          go_simp
          try with_reducible rfl
        try simp only [Act.put, List.getElem_toArray, List.getElem_cons_succ, List.getElem_cons_zero, List.setIfInBounds_toArray, List.set_cons_zero, List.set_cons_succ]
        refine wpAnyH_take (i := 11) (oi := _) (v := ?v11n11) rfl (by kernel_rfl) (by kernel_rfl) (by kernel_rfl) (fun _ _ _ h => h) (Or.inl ⟨by rfl, ?hy11n11⟩) (by assumption) ?rest11n11
        case hy11n11 =>
          intro w' hSw
          go_simp
          try with_reducible rfl
        try simp only [Act.put, List.getElem_toArray, List.getElem_cons_succ, List.getElem_cons_zero, List.setIfInBounds_toArray, List.set_cons_zero, List.set_cons_succ]
        refine wpAnyH_take (i := 12) (oi := _) (v := ?v12n12) rfl (by kernel_rfl) (by kernel_rfl) (by kernel_rfl) (fun _ _ _ h => h) (Or.inl ⟨by rfl, ?hy12n12⟩) (by assumption) ?rest12n12
        case hy12n12 =>
          intro w' hSw
          go_simp
          try with_reducible rfl
        try simp only [Act.put, List.getElem_toArray, List.getElem_cons_succ, List.getElem_cons_zero, List.setIfInBounds_toArray, List.set_cons_zero, List.set_cons_succ]
        refine wpAnyH_ready (rs := [9, 13]) (by kernel_rfl) (by simp) (AllReadyH.cons (o := _) rfl (fun K hK => ?_) (AllReadyH.cons (o := _) rfl (fun K hK => ?_) AllReadyH.nil))
        · rw [if_pos (by rfl)]
          refine wp_load_mid 70 (.tmp 62) rfl g (j * 33) (by rfl) _ _ (HRWD.out.rng j y (posL_lt (Nat.lt_succ_self _) HY.out)) Tryd.underlying70 rfl HIY.out ?_
          refine hK.out _ _ trivial (fun hHeld => ?_)
          clear hK K
          try simp only [Act.put, List.getElem_toArray, List.getElem_cons_succ, List.getElem_cons_zero, List.setIfInBounds_toArray, List.set_cons_zero, List.set_cons_succ]
          refine wpAnyH_ready (rs := [13]) (by kernel_rfl) (by simp) (AllReadyH.cons (o := _) rfl (fun K hK => ?_) AllReadyH.nil)
          rw [if_pos (by rfl)]
          refine wp_load_mid 70 (.tmp 66) rfl g ((j + 1) * 33) (by rfl) _ _ (HRWD.out.rng (j + 1) x posL_at) Tryd.underlying70 rfl HIX.out ?_
          refine hK.out _ _ trivial (fun hHeld => ?_)
          clear hK K
          try simp only [Act.put, List.getElem_toArray, List.getElem_cons_succ, List.getElem_cons_zero, List.setIfInBounds_toArray, List.set_cons_zero, List.set_cons_succ]
          refine wpAnyH_take (i := 14) (oi := _) (v := ?v14n13) rfl (by kernel_rfl) (by kernel_rfl) (by kernel_rfl) (fun _ _ _ h => h) (Or.inl ⟨by rfl, ?hy14n13⟩) (by assumption) ?rest14n13
          case hy14n13 =>
            intro w' hSw
            go_simp
            try with_reducible rfl
          try simp only [Act.put, List.getElem_toArray, List.getElem_cons_succ, List.getElem_cons_zero, List.setIfInBounds_toArray, List.set_cons_zero, List.set_cons_succ]
          refine wpAnyH_ready (rs := [15]) (by kernel_rfl) (by simp) (AllReadyH.cons (o := _) rfl (fun K hK => ?_) AllReadyH.nil)
          rw [if_pos (by rfl)]
          refine wp_store_mid 70 (.tmp 68) (.tmp 63) rfl g ((j + 1) * 33) (enL y).toArray (by rfl) (by rfl) (there_en HRWD.out.there (by omega) HOY.out) HIYs.out (enA_one _) ?_
          refine hK.out _ _ trivial (fun hHeld => ?_)
          clear hK K
          try simp only [Act.put, List.getElem_toArray, List.getElem_cons_succ, List.getElem_cons_zero, List.setIfInBounds_toArray, List.set_cons_zero, List.set_cons_succ]
          refine wpAnyH_take (i := 16) (oi := _) (v := ?v16n14) rfl (by kernel_rfl) (by kernel_rfl) (by kernel_rfl) (fun _ _ _ h => h) (Or.inl ⟨by rfl, ?hy16n14⟩) (by assumption) ?rest16n14
          case hy16n14 =>
            intro w' hSw
            go_simp
            try with_reducible rfl
          try simp only [Act.put, List.getElem_toArray, List.getElem_cons_succ, List.getElem_cons_zero, List.setIfInBounds_toArray, List.set_cons_zero, List.set_cons_succ]
          refine wpAnyH_ready (rs := [17]) (by kernel_rfl) (by simp) (AllReadyH.cons (o := _) rfl (fun K hK => ?_) AllReadyH.nil)
          rw [if_pos (by rfl)]
          refine wp_store_mid 70 (.tmp 69) (.tmp 67) rfl g (j * 33) (enL x).toArray (by rfl) (by rfl) (World.there_setCells (there_en HRWD.out.there (by omega) HOX.out) _ _ _) HIXs.out (enA_one _) ?_
          refine hK.out _ _ trivial (fun hHeld => ?_)
          clear hK K
          try simp only [Act.put, List.getElem_toArray, List.getElem_cons_succ, List.getElem_cons_zero, List.setIfInBounds_toArray, List.set_cons_zero, List.set_cons_succ]
          refine wpAnyH_done (by kernel_rfl) ?_ _
          clear hHeld
          go_wp2_with fail
          go_roundw
          case rel => exact ⟨j, by go_num, by omega, HRW2, HDR2, HBW2⟩
          case measure => simp [intOf]
        · rw [if_pos (by rfl)]
          refine wp_load_mid 70 (.tmp 66) rfl g ((j + 1) * 33) (by rfl) _ _ (HRWD.out.rng (j + 1) x posL_at) Tryd.underlying70 rfl HIX.out ?_
          refine hK.out _ _ trivial (fun hHeld => ?_)
          clear hK K
          try simp only [Act.put, List.getElem_toArray, List.getElem_cons_succ, List.getElem_cons_zero, List.setIfInBounds_toArray, List.set_cons_zero, List.set_cons_succ]
          refine wpAnyH_ready (rs := [9]) (by kernel_rfl) (by simp) (AllReadyH.cons (o := _) rfl (fun K hK => ?_) AllReadyH.nil)
          rw [if_pos (by rfl)]
          refine wp_load_mid 70 (.tmp 62) rfl g (j * 33) (by rfl) _ _ (HRWD.out.rng j y (posL_lt (Nat.lt_succ_self _) HY.out)) Tryd.underlying70 rfl HIY.out ?_
          refine hK.out _ _ trivial (fun hHeld => ?_)
          clear hK K
          try simp only [Act.put, List.getElem_toArray, List.getElem_cons_succ, List.getElem_cons_zero, List.setIfInBounds_toArray, List.set_cons_zero, List.set_cons_succ]
          refine wpAnyH_take (i := 14) (oi := _) (v := ?v14n15) rfl (by kernel_rfl) (by kernel_rfl) (by kernel_rfl) (fun _ _ _ h => h) (Or.inl ⟨by rfl, ?hy14n15⟩) (by assumption) ?rest14n15
          case hy14n15 =>
            intro w' hSw
            go_simp
            try with_reducible rfl
          try simp only [Act.put, List.getElem_toArray, List.getElem_cons_succ, List.getElem_cons_zero, List.setIfInBounds_toArray, List.set_cons_zero, List.set_cons_succ]
          refine wpAnyH_ready (rs := [15]) (by kernel_rfl) (by simp) (AllReadyH.cons (o := _) rfl (fun K hK => ?_) AllReadyH.nil)
          rw [if_pos (by rfl)]
          refine wp_store_mid 70 (.tmp 68) (.tmp 63) rfl g ((j + 1) * 33) (enL y).toArray (by rfl) (by rfl) (there_en HRWD.out.there (by omega) HOY.out) HIYs.out (enA_one _) ?_
          refine hK.out _ _ trivial (fun hHeld => ?_)
          clear hK K
          try simp only [Act.put, List.getElem_toArray, List.getElem_cons_succ, List.getElem_cons_zero, List.setIfInBounds_toArray, List.set_cons_zero, List.set_cons_succ]
          refine wpAnyH_take (i := 16) (oi := _) (v := ?v16n16) rfl (by kernel_rfl) (by kernel_rfl) (by kernel_rfl) (fun _ _ _ h => h) (Or.inl ⟨by rfl, ?hy16n16⟩) (by assumption) ?rest16n16
          case hy16n16 =>
            intro w' hSw
            go_simp
            try with_reducible rfl
          try simp only [Act.put, List.getElem_toArray, List.getElem_cons_succ, List.getElem_cons_zero, List.setIfInBounds_toArray, List.set_cons_zero, List.set_cons_succ]
          refine wpAnyH_ready (rs := [17]) (by kernel_rfl) (by simp) (AllReadyH.cons (o := _) rfl (fun K hK => ?_) AllReadyH.nil)
          rw [if_pos (by rfl)]
          refine wp_store_mid 70 (.tmp 69) (.tmp 67) rfl g (j * 33) (enL x).toArray (by rfl) (by rfl) (World.there_setCells (there_en HRWD.out.there (by omega) HOX.out) _ _ _) HIXs.out (enA_one _) ?_
          refine hK.out _ _ trivial (fun hHeld => ?_)
          clear hK K
          try simp only [Act.put, List.getElem_toArray, List.getElem_cons_succ, List.getElem_cons_zero, List.setIfInBounds_toArray, List.set_cons_zero, List.set_cons_succ]
          refine wpAnyH_done (by kernel_rfl) ?_ _
          clear hHeld
          go_wp2_with fail
          go_roundw
          case rel => exact ⟨j, by go_num, by omega, HRW2, HDR2, HBW2⟩
          case measure => simp [intOf]
end Go.Proofs.YtkookkhlgllneaaDoor

namespace Go.Proofs.YtkookkhlgllneaaDoor
open Go.RowKit

/-- a snapshot, of any length -/
structure Snap (l : List En) : Prop where
  srt : Srt En.p l
  path : ∀ x ∈ l, pathB x.p = true
  some : ∀ x ∈ l, x.d ≠ zed
theorem Snap.nil : Snap [] := ⟨List.Pairwise.nil, by simp, by simp⟩
theorem Snap.put {l : List En} {x : En} (h : Snap l) (hp : pathB x.p = true) (hd : x.d ≠ zed) : Snap (putT l x) := by
  refine ⟨(sansP_srt h.srt).ins sansP_ne, fun z hz => ?_, fun z hz => ?_⟩ <;> rcases mem_ins.1 hz with rfl | hz
  · exact hp
  · exact h.path z (List.mem_filter.1 hz).1
  · exact hd
  · exact h.some z (List.mem_filter.1 hz).1
theorem putT_length (l : List En) (x : En) : (putT l x).length ≤ l.length + 1 := by
  unfold putT
  rw [length_ins]
  have := sansP_len l x.p
  omega
theorem Snap.drop {l : List En} (h : Snap l) (i : Nat) : Snap (l.take i ++ l.drop (i + 1)) := by
  have hs : (l.take i ++ l.drop (i + 1)).Sublist l := by rw [← List.eraseIdx_eq_take_drop_succ]; exact List.eraseIdx_sublist l i
  exact ⟨List.Pairwise.sublist hs h.srt, fun z hz => h.path z (hs.subset hz), fun z hz => h.some z (hs.subset hz)⟩
/-- a slice that doesn't lie in the tape's block -/
def ApartT (tb : Nat) (sp : Option Addr) : Prop := ∀ b o, sp = some ⟨b, o, none⟩ → b ≠ tb
theorem EnsIn.turn {w w' : World} {tb : Nat} {sp : Option Addr} {n cap : Nat} {l : List En} (h : EnsIn w w.heap.size sp n cap l) (ha : ApartT tb sp) (hu : Turn tb w w') : EnsIn w' w'.heap.size sp n cap l :=
  ⟨h.len, h.ok, fun hn => by
    obtain ⟨b, off, e, hlt, hc, hr⟩ := h.cells hn
    exact ⟨b, off, e, Nat.lt_of_lt_of_le hlt hu.size, hc, fun i x hi j v hv => (World.cell?_of_block (a := ⟨b, off + i * 33 + j, none⟩) (hu.block b hlt (ha b off e))).trans (hr i x hi j v hv)⟩⟩
theorem OwnE.apart {w : World} {B n cap tb : Nat} {sp : Option Addr} {l : List En} (h : OwnE w B (.slice sp n cap) l) (hB : tb < B) : ApartT tb sp := by
  rintro b o rfl
  obtain ⟨_, ⟨e, _⟩ | ⟨g, c, u, e, hg, _⟩⟩ := h.1
  · cases e
  · injection e with e
    injection e with e; injection e with e
    omega
set_option maxRecDepth 100000 in
set_option maxHeartbeats 1000000 in
theorem snapshot_any (tb m q : Nat) (w : World) (ht : Tp w tb (q + 1 + 5 * m)) (hm : m ≤ 1000) :
    Calls Tryd.prog 20 #[.pointer (some ⟨tb, 0, none⟩), .int .i64 m] w fun e w' => ∃ sp n cap l, e = .returned (.slice sp n cap) ∧ EnsIn w' w'.heap.size sp n cap l ∧ ApartT tb sp ∧ Snap l ∧ n ≤ m ∧ Tp w' tb q ∧ Turn tb w w' := by
  have HT := Lib.hid ht; clear ht
  have hnx := next_any tb (m + 1) (q + 5 * m) w (HT.out.le (by omega)) (by omega) (by omega)
  rw [show ((m + 1 : Nat) : Int) = (m : Int) + 1 from by omega] at hnx
  have HNX := Lib.hid hnx
  have q0 : IntKind.i64.wrap ((m : Int) + 1) = (m : Int) + 1 := IntWalk.i64_in _ (by omega)
  clear hnx
  go_enter Tryd.func20, Tryd.ntmps20
  go_wp2_with fail
  refine HNX.out.mono ?_
  rintro e w1 ⟨r, rfl, hr, ht1, hu1⟩
  have HT1 := Lib.hid ht1; have HU1 := Lib.hid hu1; clear ht1 hu1 HNX
  go_wp2_with fail
  go_loopw [5, 6] (fun v i wr => ∃ (c N cap : Nat) (sp : Option Addr) (l : List En), N + c ≤ m ∧ i = .int .i64 c ∧ v = .slice sp N cap ∧ Hid (EnsIn wr wr.heap.size sp N cap l) ∧ Hid (ApartT tb sp) ∧ Hid (Snap l) ∧ Hid (Tp wr tb (q + 5 * c)) ∧ Hid (Turn tb w wr)) (fun _ i _ => (intOf i).toNat)
  case atStart => exact ⟨r, 0, 0, none, [], by omega, rfl, rfl, ⟨rfl, by simp, fun h => by omega⟩, (by rintro b o h; cases h), Snap.nil, HT1.out.le (by omega), HU1.out⟩
  case round =>
  clear HT1 HU1
  obtain ⟨c, N, cap, sp, l, hc, rfl, rfl, HE, HA, HSN, HTT, HU⟩ := hrel
  by_cases hn : 0 < c
  · have hd : decide ((c : Int) > 0) = true := by simp; omega
    have q1 : IntKind.i64.wrap ((c : Int) - 1) = (c : Int) - 1 := IntWalk.i64_in _ (by omega)
    go_wp2_with fail
    refine (path_any tb (q + 5 * (c - 1) + 1) wr (HTT.out.le (by omega))).mono ?_
    rintro e w2 ⟨p, rfl, hp, ht2, hu2⟩
    have HPB := Lib.hid hp
    have HT2 := Lib.hid ht2; have HE2 := Lib.hid (HE.out.turn HA.out hu2); have HU2 := Lib.hid (HU.out.trans hu2)
    clear ht2 hu2 hp
    go_wp2_with fail
    refine (tsum_any tb (q + 5 * (c - 1)) w2 HT2.out).mono ?_
    rintro e w3 ⟨d, rfl, hd32, hdz, ht3, hu3⟩
    have HDO := Lib.hid hd32; have HDZ := Lib.hid hdz
    have HT3 := Lib.hid ht3; have HE3 := Lib.hid (HE2.out.turn HA.out hu3); have HU3 := Lib.hid (HU2.out.trans hu3)
    clear ht3 hu3 hd32 hdz
    go_wp2_with (refine wpList_build_eq rfl 70 [(0, .tmp 17), (1, .tmp 19)] rfl [(0, .string p), (1, .agg (d.map (Value.int .u8)).toArray)] rfl _ (buildE p d HDO.out.1 _) ?_)
    refine (Put_any sp N cap l ⟨p, d⟩ w3 HE3.out HSN.out.srt HDO.out (by omega)).mono ?_
    rintro e w4 ⟨g, n', cap', rfl, hg, he4, hb4⟩
    have HE4 := Lib.hid he4
    have HT4 := Lib.hid (HT3.out.of hb4)
    have HU4 := Lib.hid (HU3.out.trans (Turn.of hb4))
    have HSN4 := Lib.hid (HSN.out.put (x := ⟨p, d⟩) HPB.out HDZ.out)
    have htl := HT3.out.lt
    have hlen : n' ≤ N + 1 := by
      have h1 := HE4.out.len
      have h2 := putT_length l ⟨p, d⟩
      have h3 := HE3.out.len
      omega
    have HA4 : Hid (ApartT tb (some ⟨g, 0, none⟩)) := by
      show ApartT _ _
      rintro b o h
      injection h with h; injection h with h
      omega
    clear he4 hb4
    go_wp2_with fail
    go_roundw
    case rel => exact ⟨c - 1, n', cap', _, _, by omega, by go_num, rfl, HE4, HA4, HSN4, HT4, HU4⟩
    case measure => simp [intOf]; omega
  · obtain rfl : c = 0 := by omega
    go_wp2_with fail
    go_ret
    exact ⟨_, _, _, l, rfl, HE.out, HA.out, HSN.out, by omega, HTT.out.le (by omega), HU.out⟩
end Go.Proofs.YtkookkhlgllneaaDoor

namespace Go.Proofs.YtkookkhlgllneaaDoor
open Go.RowKit

theorem apart_new {tb g : Nat} (h : tb < g) : ApartT tb (some ⟨g, 0, none⟩) := by
  rintro b o h
  injection h with h; injection h with h
  omega
set_option maxRecDepth 100000 in
set_option maxHeartbeats 2000000 in
theorem edit_any (tb q : Nat) (sp0 : Option Addr) (n0 cap0 : Nat) (l0 : List En) (w : World) (ht : Tp w tb (q + 19)) (he : EnsIn w w.heap.size sp0 n0 cap0 l0) (ha : ApartT tb sp0) (hsn : Snap l0) (hn0 : n0 ≤ 1000) :
    Calls Tryd.prog 21 #[.pointer (some ⟨tb, 0, none⟩), .slice sp0 n0 cap0] w fun e w' => ∃ sp n cap l, e = .returned (.slice sp n cap) ∧ EnsIn w' w'.heap.size sp n cap l ∧ ApartT tb sp ∧ Snap l ∧ n ≤ n0 + 3 ∧ Tp w' tb q ∧ Turn tb w w' := by
  have HT := Lib.hid ht; have HE0 := Lib.hid he; have HA0 := Lib.hid ha; have HS0 := Lib.hid hsn; clear ht he ha hsn
  go_enter Tryd.func21, Tryd.ntmps21
  go_wp2_with fail
  refine (next_any tb 4 (q + 18) w HT.out (by omega) (by omega)).mono ?_
  rintro e w1 ⟨r, rfl, hr, ht1, hu1⟩
  have HT1 := Lib.hid ht1; have HU1 := Lib.hid hu1; have HE1 := Lib.hid (HE0.out.turn HA0.out hu1); clear ht1 hu1
  go_wp2_with fail
  go_loopw [1, 5] (fun v i wr => ∃ (c N cap : Nat) (sp : Option Addr) (l : List En), N + c ≤ n0 + 3 ∧ c ≤ 3 ∧ i = .int .i64 c ∧ v = .slice sp N cap ∧ Hid (EnsIn wr wr.heap.size sp N cap l) ∧ Hid (ApartT tb sp) ∧ Hid (Snap l) ∧ Hid (Tp wr tb (q + 6 * c)) ∧ Hid (Turn tb w wr)) (fun _ i _ => (intOf i).toNat)
  case atStart => exact ⟨r, n0, cap0, sp0, l0, by omega, by omega, rfl, rfl, HE1.out, HA0.out, HS0.out, HT1.out.le (by omega), HU1.out⟩
  case round =>
  clear HT1 HU1 HE1 HE0 HA0 HS0
  obtain ⟨c, N, cap, sp, l, hc, hc3, rfl, rfl, HE, HA, HSN, HTT, HU⟩ := hrel
  by_cases hn : 0 < c
  · have hd : decide ((c : Int) > 0) = true := by simp; omega
    have q1 : IntKind.i64.wrap ((c : Int) - 1) = (c : Int) - 1 := IntWalk.i64_in _ (by omega)
    have hnx := next_any tb 3 (q + 6 * (c - 1) + 5) wr (HTT.out.le (by omega)) (by omega) (by omega)
    have HNX := Lib.hid hnx; clear hnx
    go_wp2_with fail
    refine HNX.out.mono ?_
    rintro e w2 ⟨t, rfl, htt, ht2, hu2⟩
    have HT2 := Lib.hid ht2; have HE2 := Lib.hid (HE.out.turn HA.out hu2); have HU2 := Lib.hid (HU.out.trans hu2)
    clear ht2 hu2 HNX
    by_cases hgo : t = 0 ∧ 0 < N
    · obtain ⟨rfl, hN⟩ := hgo
      have hd2 : decide ((N : Int) > 0) = true := by simp; omega
      have htl := HT2.out.lt
      go_wp2_with fail
      refine (next_any tb N (q + 6 * (c - 1)) w2 (HT2.out.le (by omega)) (by omega) (by omega)).mono ?_
      rintro e w3 ⟨i, rfl, hi, ht3, hu3⟩
      have HT3 := Lib.hid ht3; have HE3 := Lib.hid (HE2.out.turn HA.out hu3); have HU3 := Lib.hid (HU2.out.trans hu3)
      clear ht3 hu3
      go_wp2_with fail
      refine (drop_any sp N cap l i w3 HE3.out hi (by omega)).mono ?_
      rintro e w4 ⟨sp4, cap4, rfl, ho4, hb4⟩
      have HT4 := Lib.hid (HT3.out.of hb4)
      have HU4 := Lib.hid (HU3.out.trans (Turn.of hb4))
      have htl3 := HT3.out.lt
      have HA4 := Lib.hid (ho4.apart htl3)
      have HE4 := Lib.hid (ho4.ens (by
        have := HE3.out.len
        rw [List.length_append, List.length_take, List.length_drop]; omega))
      have HSN4 := Lib.hid (HSN.out.drop i)
      clear ho4 hb4
      go_wp2_with fail
      go_roundw
      case rel => exact ⟨c - 1, N - 1, cap4, _, _, by omega, by omega, by go_num, rfl, HE4, HA4, HSN4, HT4, HU4⟩
      case measure => simp [intOf]; omega
    · have hcond : (t ≠ 0) ∨ (t = 0 ∧ N = 0) := by omega
      have HP : Hid (∀ w3, Tp w3 tb (q + 6 * (c - 1) + 5) → Calls Tryd.prog 59 #[.pointer (some ⟨tb, 0, none⟩)] w3 fun e w' => ∃ s : ByteArray, e = .returned (.string s) ∧ pathB s = true ∧ Tp w' tb (q + 6 * (c - 1) + 1) ∧ Turn tb w3 w') := fun w3 h => path_any tb (q + 6 * (c - 1) + 1) w3 h
      rcases hcond with h0 | ⟨rfl, rfl⟩
      · have hd2 : ((t : Int) == 0) = false := by simp; omega
        clear hgo
        go_wp2_with fail
        refine (HP.out w2 HT2.out).mono ?_
        rintro e w3 ⟨p, rfl, hp, ht3, hu3⟩
        have HPB := Lib.hid hp
        have HT3 := Lib.hid ht3; have HE3 := Lib.hid (HE2.out.turn HA.out hu3); have HU3 := Lib.hid (HU2.out.trans hu3)
        clear ht3 hu3 hp
        go_wp2_with fail
        refine (tsum_any tb (q + 6 * (c - 1)) w3 HT3.out).mono ?_
        rintro e w4 ⟨d, rfl, hd32, hdz, ht4, hu4⟩
        have HDO := Lib.hid hd32; have HDZ := Lib.hid hdz
        have HT4 := Lib.hid ht4; have HE4 := Lib.hid (HE3.out.turn HA.out hu4); have HU4 := Lib.hid (HU3.out.trans hu4)
        clear ht4 hu4 hd32 hdz
        go_wp2_with (refine wpList_build_eq rfl 70 [(0, .tmp 28), (1, .tmp 30)] rfl [(0, .string p), (1, .agg (d.map (Value.int .u8)).toArray)] rfl _ (buildE p d HDO.out.1 _) ?_)
        refine (Put_any sp N cap l ⟨p, d⟩ w4 HE4.out HSN.out.srt HDO.out (by omega)).mono ?_
        rintro e w5 ⟨g, n', cap', rfl, hg, he5, hb5⟩
        have HE5 := Lib.hid he5
        have HT5 := Lib.hid (HT4.out.of hb5)
        have HU5 := Lib.hid (HU4.out.trans (Turn.of hb5))
        have HSN5 := Lib.hid (HSN.out.put (x := ⟨p, d⟩) HPB.out HDZ.out)
        have htl := HT4.out.lt
        have hlen : n' ≤ N + 1 := by
          have h1 := HE5.out.len
          have h2 := putT_length l ⟨p, d⟩
          have h3 := HE4.out.len
          omega
        have HA5 := Lib.hid (apart_new (show tb < g by omega))
        clear he5 hb5
        go_wp2_with fail
        go_roundw
        case rel => exact ⟨c - 1, n', cap', _, _, by omega, by omega, by go_num, rfl, HE5, HA5, HSN5, HT5, HU5⟩
        case measure => simp [intOf]; omega
      · clear hgo
        go_wp2_with fail
        refine (HP.out w2 HT2.out).mono ?_
        rintro e w3 ⟨p, rfl, hp, ht3, hu3⟩
        have HPB := Lib.hid hp
        have HT3 := Lib.hid ht3; have HE3 := Lib.hid (HE2.out.turn HA.out hu3); have HU3 := Lib.hid (HU2.out.trans hu3)
        clear ht3 hu3 hp
        go_wp2_with fail
        refine (tsum_any tb (q + 6 * (c - 1)) w3 HT3.out).mono ?_
        rintro e w4 ⟨d, rfl, hd32, hdz, ht4, hu4⟩
        have HDO := Lib.hid hd32; have HDZ := Lib.hid hdz
        have HT4 := Lib.hid ht4; have HE4 := Lib.hid (HE3.out.turn HA.out hu4); have HU4 := Lib.hid (HU3.out.trans hu4)
        clear ht4 hu4 hd32 hdz
        go_wp2_with (refine wpList_build_eq rfl 70 [(0, .tmp 28), (1, .tmp 30)] rfl [(0, .string p), (1, .agg (d.map (Value.int .u8)).toArray)] rfl _ (buildE p d HDO.out.1 _) ?_)
        refine (Put_any sp 0 cap l ⟨p, d⟩ w4 HE4.out HSN.out.srt HDO.out (by omega)).mono ?_
        rintro e w5 ⟨g, n', cap', rfl, hg, he5, hb5⟩
        have HE5 := Lib.hid he5
        have HT5 := Lib.hid (HT4.out.of hb5)
        have HU5 := Lib.hid (HU4.out.trans (Turn.of hb5))
        have HSN5 := Lib.hid (HSN.out.put (x := ⟨p, d⟩) HPB.out HDZ.out)
        have htl := HT4.out.lt
        have hlen : n' ≤ 1 := by
          have h1 := HE5.out.len
          have h2 := putT_length l ⟨p, d⟩
          have h3 := HE4.out.len
          omega
        have HA5 := Lib.hid (apart_new (show tb < g by omega))
        clear he5 hb5
        go_wp2_with fail
        go_roundw
        case rel => exact ⟨c - 1, n', cap', _, _, by omega, by omega, by go_num, rfl, HE5, HA5, HSN5, HT5, HU5⟩
        case measure => simp [intOf]; omega
  · obtain rfl : c = 0 := by omega
    go_wp2_with fail
    go_ret
    exact ⟨_, _, _, l, rfl, HE.out, HA.out, HSN.out, by omega, HTT.out.le (by omega), HU.out⟩
end Go.Proofs.YtkookkhlgllneaaDoor
