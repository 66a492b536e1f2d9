/-
  One-time signatures: the walk of Digits (condition: a digest of 32 bytes).
-/
import Derived.Test.YtkeieacmboidoaaDoorOneD
import Derived.Deep.RegionHeld3
import Derived.IntWalk
namespace Go.Proofs.YtkeieacmboidoaaDoor
open Go.RowKit Go.Shelf Go.Proofs.YtkeieacmboidoaaDoor.One
attribute [local go_sem] Oper.semAt_some

theorem baseFour_any (sp : Option Addr) (n cap : Nat) (w : World) :
    Calls Tryd.prog 27 #[.slice sp n cap] w fun e w' => e = .returned (.func (.func 31) #[] #[.pointer (some ⟨w.heap.size, 0, none⟩)]) ∧ w' = w.alloc (.cells #[.slice sp n cap] 50) := by
  go_enter Tryd.func27, Tryd.ntmps27
  go_wp2_with fail
  go_ret
  exact ⟨rfl, rfl⟩
theorem cell_oth {w w' : World} {g : Nat} (h : ∀ k, k < w.heap.size → k ≠ g → w'.heap[k]? = w.heap[k]?) (k : Nat) (h1 : k < w.heap.size) (h2 : k ≠ g) : w'.cell? ⟨k, 0, none⟩ = w.cell? ⟨k, 0, none⟩ := World.cell?_of_block (a := ⟨k, 0, none⟩) (h k h1 h2)
theorem keep2_set {ba bb c : Nat} (h1 : ba ≠ c) (h2 : bb ≠ c) (X : World) (v : Value) : Keep2 ba bb X (X.setCell ⟨c, 0, none⟩ v) :=
  ⟨by show _ ≤ (Array.modify _ _ _).size; rw [Array.size_modify]; exact Nat.le_refl _, Below.heap_setCell X ⟨c, 0, none⟩ v ba h1, Below.heap_setCell X ⟨c, 0, none⟩ v bb h2⟩
/-- the sum as the loop keeps it -/
def sumW (l : List Int) : Int := l.foldl (fun s x => wrap64 (s + wrap64 (3 - x))) 0
theorem sumW_snoc (l : List Int) (x : Int) : sumW (l ++ [x]) = wrap64 (sumW l + wrap64 (3 - x)) := by simp [sumW, List.foldl_append]
theorem wrap64_in {x : Int} (h1 : -9223372036854775808 ≤ x) (h2 : x ≤ 9223372036854775807) : wrap64 x = x := by unfold wrap64; omega
theorem sumW_lack {l : List Int} (h : ∀ y ∈ l, 0 ≤ y ∧ y ≤ 3) (hl : l.length ≤ 1000) : sumW l = lack l := by
  obtain ⟨k, hk⟩ : ∃ k, k = l.length := ⟨_, rfl⟩
  induction k generalizing l with
  | zero => rw [List.eq_nil_of_length_eq_zero hk.symm]; rfl
  | succ k ih =>
    have hne : l ≠ [] := by intro e; subst e; simp at hk
    have e := (List.dropLast_concat_getLast hne).symm
    have hlen : l.dropLast.length = k := by rw [List.length_dropLast]; omega
    have hb := h _ (List.getLast_mem hne)
    generalize l.getLast hne = x at *
    generalize l.dropLast = t at *
    subst e
    have ht : ∀ y ∈ t, 0 ≤ y ∧ y ≤ 3 := fun y hy => h y (by simp [hy])
    have hr := lack_range ht
    rw [sumW_snoc, ih ht (by omega) hlen.symm, lack_snoc, wrap64_in (x := 3 - x) (by omega) (by omega), wrap64_in (by omega) (by omega)]
    omega
/-- the caller's cells between two rounds -/
structure DigN (w : World) (b p : Nat) (pre : List Int) (W : World) : Prop where
  app : AppN w p (b + 1) (b + 1) 68 [] pre W
  sum : Boxed W (p + 1) 3 (.int .i64 (sumW pre))
  big : p + 3 ≤ W.heap.size
theorem digN_own (w : World) (b p B : Nat) (h1 : b + 1 ≤ w.heap.size) (h2 : b + 1 ≤ B) (h3 : w.heap.size ≤ p) (h4 : w.heap.size ≤ B) : OwnFrom B (DigN w b p) := fun pre X Y row h hg hrow =>
  ⟨appN_own w p (b + 1) (b + 1) 68 [] B h1 h2 h3 h4 pre X Y row h.app hg hrow, (boxed_own (p + 1) 3 (fun pre : List Int => .int .i64 (sumW pre))).from B pre X Y row h.sum hg hrow, Nat.le_trans h.big hg.size⟩
def digFr (d : List Int) (b p : Nat) (x : Int) : Act := { tmps := #[.agg (dgA d), .pointer (some ⟨b, 0, none⟩), .slice none 0 0, .pointer (some ⟨p, 0, none⟩), .pointer (some ⟨p + 1, 0, none⟩), .int .i64 x, .slice (some ⟨b + 1, 0, none⟩) 0 68, .slice (some ⟨b, 0, none⟩) 16 32, .func (.func 31) #[] #[.pointer (some ⟨p + 2, 0, none⟩)], .int .i64 x, undef, undef, undef, undef, undef, undef, undef, undef, undef, undef, undef, undef, undef, undef], defers := [] }
set_option maxRecDepth 100000 in
set_option maxHeartbeats 4000000 in
theorem digits_any (d : List Int) (hd : D32 d) (w : World) :
    Calls Tryd.prog 21 #[.agg (dgA d)] w fun e w' => ∃ sp cap, e = .returned (.slice sp 68 cap) ∧ OwnN w' w.heap.size (.slice sp 68 cap) (digs d) ∧ Below w.heap.size w w' := by
  have HD := Lib.hid hd; clear hd
  have HN := Lib.hid (heap_alloc_new w (.cells (dgA d) 37))
  have HB := Lib.hid ((Below.refl w.heap.size w).alloc (Nat.le_refl _) (.cells (dgA d) 37))
  have HZ := Lib.hid (World.size_alloc w (.cells (dgA d) 37))
  refine (callsIn_wide (n := 12)).1 ?_
  refine callsIn_of_wp_marks Tryd.func21 rfl trivial ?_ rfl
  simp only [Tryd.ntmps21, List.size_toArray, List.length_cons, List.length_nil, Nat.reduceAdd, Nat.reduceSub, Array.replicate_succ, Array.replicate_zero, List.push_toArray, List.append_toArray, List.nil_append, List.cons_append]
  obtain ⟨i0, hi0, hz0, hz1, hz2⟩ := info_partsN infoI1
  have HI0 := Lib.hid hi0; have HZ0 := Lib.hid hz0; have HZ1 := Lib.hid hz1; have HZ2 := Lib.hid hz2
  clear hi0 hz0 hz1 hz2
  generalize hb : w.heap.size = b at *
  have HBZ := Lib.hid hb; clear hb
  gi_wp2_with (gi_at_make; generalize hw0 : World.alloc w _ = w0; have HD0 := Lib.hid (show w0.heap[b]? = some (.cells (dgA d) 37 (0, 0)) by rw [← hw0]; exact HN.out); have HB0 := Lib.hid (show Below b w w0 by rw [← hw0]; exact HB.out); have HS0 := Lib.hid (show w0.heap.size = b + 1 by rw [← hw0]; exact HZ.out); clear hw0 HN HB HZ; have hs0 : b + 1 ≤ w0.heap.size := Nat.le_of_eq HS0.out.symm; refine wpListIn_make_own _ rfl _ _ 45 rfl (b + 1) 3 i0 (.int .i64 0) 1 Tryd.underlying45 HI0.out HZ0.out HZ1.out .i64 .i64 68 68 rfl rfl rfl (by rw [HZ2.out]; decide) (by unfold maxLen; decide) hs0 ?_; intro w1 HO1 HG1)
  simp only [HS0.out, HBZ.out]
  have hz1 : b + 2 ≤ w1.heap.size := by
    obtain ⟨_, h | ⟨g, cap, cur, e, hg, h1, _⟩⟩ := HO1
    · cases h.1
    · have := (Array.getElem?_eq_some_iff.1 h1).1
      have e2 : g = w0.heap.size := by simp only [Value.slice.injEq, Option.some.injEq, Addr.mk.injEq] at e; exact e.1.1.symm
      have := HS0.out
      omega
  have HO1' : Hid (OwnN w1 (b + 1) (.slice (some ⟨b + 1, 0, none⟩) 0 68) []) := by have h := HO1; rw [HS0.out] at h; exact h
  have HB1 : Hid (Below (b + 1) w0 w1) := (Below.refl _ w0).grown HG1 hs0 (fun k e => by cases e)
  clear HO1 HG1
  have HB2 := Lib.hid (((Below.refl w1.heap.size w1).alloc (Nat.le_refl _) (.cells #[Value.slice (some ⟨b + 1, 0, none⟩) 0 68] 45)).alloc (by simp) (.cells #[Value.int .i64 0] 3))
  have HR2 := Lib.hid (heap_alloc_new w1 (.cells #[Value.slice (some ⟨b + 1, 0, none⟩) 0 68] 45))
  have HR3 := Lib.hid (heap_alloc_new (w1.alloc (.cells #[Value.slice (some ⟨b + 1, 0, none⟩) 0 68] 45)) (.cells #[Value.int .i64 0] 3))
  have HR4 := Lib.hid (heap_alloc_old (w1.alloc (.cells #[Value.slice (some ⟨b + 1, 0, none⟩) 0 68] 45)) (.cells #[Value.int .i64 0] 3) (show w1.heap.size < _ by simp))
  generalize hw2 : World.alloc (World.alloc w1 _) _ = w2
  have H2a : Hid (w2.heap[w1.heap.size]? = some (.cells #[Value.slice (some ⟨b + 1, 0, none⟩) 0 68] 45 (0, 0))) := by rw [← hw2]; exact HR4.out.trans HR2.out
  have H2b : Hid (w2.heap[w1.heap.size + 1]? = some (.cells #[Value.int .i64 0] 3 (0, 0))) := by rw [← hw2]; have := HR3.out; rw [World.size_alloc] at this; exact this
  have H2 : Hid (Below w1.heap.size w1 w2) := by rw [← hw2]; exact HB2.out
  have hz2 : w2.heap.size = w1.heap.size + 2 := by rw [← hw2]; simp
  clear hw2 HB2 HR2 HR3 HR4
  have HZ2' := Lib.hid hz2; clear hz2
  generalize hp : w1.heap.size = p at *
  have HP := Lib.hid hp; clear hp
  refine ⟨trivial, (callsIn_wide.2 (baseFour_any _ _ _ w2)).mono ?_⟩
  rintro e w3 ⟨rfl, hw3⟩
  simp only [HZ2'.out]
  have HB3 : Hid (Below (p + 2) w2 w3) := by rw [hw3]; exact (Below.refl _ _).alloc (Nat.le_of_eq HZ2'.out.symm) _
  have H3c : Hid (w3.heap[p + 2]? = some (.cells #[Value.slice (some ⟨b, 0, none⟩) 16 32] 50 (0, 0))) := by rw [hw3, ← HZ2'.out]; exact heap_alloc_new _ _
  have H3z : Hid (w3.heap.size = p + 3) := by show _ = _; rw [hw3, World.size_alloc, HZ2'.out]
  clear hw3
  have H3a : Hid (Boxed w3 p 45 (.slice (some ⟨b + 1, 0, none⟩) 0 68)) := by show _ = _; rw [HB3.out.block p (by omega)]; exact H2a.out
  have H3b : Hid (Boxed w3 (p + 1) 3 (.int .i64 0)) := by show _ = _; rw [HB3.out.block (p + 1) (by omega)]; exact H2b.out
  have HB23 : Hid (Below p w1 w3) := H2.out.trans (HB3.out.mono (by omega))
  have H3d : Hid (w3.heap[b]? = some (.cells (dgA d) 37 (0, 0))) := by
    show _ = _; rw [HB23.out.block b (by omega), HB1.out.block b (by omega)]; exact HD0.out
  have H3o : Hid (OwnN w3 (b + 1) (.slice (some ⟨b + 1, 0, none⟩) 0 68) []) := by
    have h := HB23.out; rw [← HP.out] at h; exact HO1'.out.below h
  have HBA : Hid (Below b w w3) := HB0.out.trans ((HB1.out.mono (by omega)).trans (HB23.out.mono (by omega)))
  have HBA1 : Hid (Below (b + 1) w0 w3) := HB1.out.trans (HB23.out.mono (by omega))
  have hz3 : p + 3 ≤ w3.heap.size := Nat.le_of_eq H3z.out.symm
  have hz3' : w3.heap.size ≤ p + 3 := Nat.le_of_eq H3z.out
  clear H2a H2b H2 HB3
  have HSB : Hid (BfIn w3 (p + 2) b 0 16 32 (d.take 16)) := ⟨by rw [cell_of_row w3 (p + 2) 0 _ _ _ H3c.out]; rfl, by rw [List.length_take, HD.out.1]; rfl, fun x hx => HD.out.2 x (List.mem_of_mem_take hx), fun j hj => by
    rw [Nat.zero_add, heap_cellO H3d.out (getD_mapD d j (by have := HD.out.1; omega)), List.getD_eq_getElem?_getD, List.getD_eq_getElem?_getD, List.getElem?_take, if_pos hj]⟩
  have HIN : Hid (DigN w0 b p [] w3) := ⟨⟨⟨_, H3a.out, H3o.out, rfl⟩, HBA1.out, by omega, fun k hk _ => HBA1.out.block k (by have := HS0.out; omega)⟩, H3b.out, by omega⟩
  have hI := digN_own w0 b p w3.heap.size (by omega) (by omega) (by have := HS0.out; omega) (by have := HS0.out; omega)
  have HIo := Lib.hid hI
  gi_wp2_with fail
  refine wpIn_rangeFunc_ownF (α := Int) rfl (by decide) (gf := 31) (lb := #[.pointer (some ⟨p + 2, 0, none⟩)]) rfl trivial (enters_of Tryd.func31 (by kernel_rfl) rfl)
    (four_stops 11 (by decide) (p + 2) b 0 16 32 (d.take 16) (by omega) w3 (by omega) (by omega) HSB.out)
    Keep2.trans (keep2_put (by omega) (by omega)) (Below.refl _ _) (fun _ => rfl) (DigN w0 b p) (fun _ _ _ => False) hI (fun _ _ _ _ _ h _ _ => h) HIN.out
    (fun x => digFr d b p x) ?assign ?body ?done ?stop
  clear hI
  case assign =>
    intro l x W K hK
    have HK := Lib.hid hK
    clear hK
    simp only [encN, List.zip_toArray, List.zip_cons_cons, List.zip_nil_right, List.foldl_toArray, List.foldl_cons, List.foldl_nil, List.setIfInBounds_toArray, List.set_cons_succ, List.set_cons_zero]
    gi_wp2_with fail
    exact HK.out
  case body =>
    rintro l pre x W hin hlen
    have hbig := hin.big
    have HFI := Lib.hid hin
    obtain ⟨v, hv, hrow, rfl⟩ := hin.app.row
    have hsum := hin.sum
    simp only [List.length_nil, Nat.zero_add, List.nil_append] at hv hrow
    have HV := Lib.hid hv; have HROW := Lib.hid hrow; have HSM := Lib.hid hsum
    have hc6 := hv.cell
    have hf6 := hv.frozen
    have hl16 : (d.take 16).length = 16 := by rw [List.length_take, HD.out.1]; rfl
    have hkl : pre.length + 1 ≤ 68 := by rw [hl16] at hlen; omega
    have HKL := Lib.hid hkl
    have hbaseW : b + 1 ≤ W.heap.size := by omega
    obtain ⟨i0, hi0, hz0, hz1, hz2⟩ := info_partsN infoI1
    have HI0 := Lib.hid hi0; have HZ1 := Lib.hid hz1
    clear hv hrow hin hi0 hz0 hz1 hz2 hl16 hkl hlen hsum
    unfold digFr
    gi_wp2_with (refine wpListIn_append_fits _ rfl (.tmp 10) (.tmp 12) _ rfl (b + 1) _ i0 1 Tryd.underlying45 HI0.out HZ1.out (b + 1) pre.length 68 (nv pre) rfl (HROW.out.alloc _) ⟨W.heap.size, 0, none⟩ 1 1 [.int .i64 x] rfl rfl (cell_oneN W x) (by intro u hu; simp at hu; subst hu; rfl) HKL.out ?_; intro W5 HO5 HG5; have HO5' := Lib.hid HO5; have HG5' := Lib.hid HG5; have happ := HV.out.appended (by decide) HROW.out hbaseW (by omega : b + 1 ≤ p) HO5'.out HG5'.out; have hc7 := happ.1.cell; have hf7 := happ.1.frozen; have HAPP := Lib.hid happ; have h8 := (HSM.out.alloc (.cells #[.int .i64 x] 3)).kept HG5'.out (fun e => by injection e with e; omega); have hc8 := h8.cell; have hf8 := h8.frozen; have HS8 := Lib.hid h8; clear happ HO5 HG5 h8)
    obtain ⟨-, hp2, hp3, hp4, hp5⟩ := HAPP.out
    have hk4 := keep2_append HG5'.out (.slice (some ⟨b + 1, 0, none⟩) (pre.length + 1) 68) (by omega : p + 2 ≠ b + 1) (by omega : b ≠ b + 1) (by omega : p + 2 < W.heap.size) (by omega : b < W.heap.size) (by omega : p + 2 ≠ p) (by omega : b ≠ p)
    refine ⟨hp4.trans (KeepsOthers.setCell _ _ _), hk4.trans (keep2_set (by omega) (by omega) _ _), ⟨⟨_, hp2.other (by omega) _, ?_, ?_⟩, (HFI.out.app.below.trans hp5).setCell (by show b + 1 ≤ p + 1; omega) _, ?_, fun k hk hkg => (Below.heap_setCell _ ⟨p + 1, 0, none⟩ _ k (by have := HS0.out; show k ≠ p + 1; omega)).trans ((oth_append HG5'.out _ k (by have := HS0.out; omega) (by have := HS0.out; omega) hkg).trans (HFI.out.app.oth k hk hkg))⟩, ?_, ?_⟩
    · rw [List.nil_append, List.length_append, nv_snoc]
      simp only [List.length_nil, Nat.zero_add]
      exact hp3.kept (grownBy_setCell' _ _ _) (.inr (by simp [Value.ownBlock]; omega))
    · rw [List.length_append]; simp
    · have h1 := hk4.1; show _ ≤ (Array.modify _ _ _).size; rw [Array.size_modify]; omega
    · rw [sumW_snoc]; exact (HS8.out.other (by omega) _).set _
    · have h1 := hk4.1; show _ ≤ (Array.modify _ _ _).size; rw [Array.size_modify]; omega
  case done =>
    rintro D xs W hD hS hin hK
    have hS2 : xs = dig64 d := hS
    have HS := Lib.hid hS2; clear hS hS2
    obtain ⟨v, hv, hrow, rfl⟩ := hin.app.row
    have hbig := hin.big
    have hsum := hin.sum
    simp only [List.length_nil, Nat.zero_add, List.nil_append] at hv hrow
    have hsl : sumW xs = lack xs := by rw [HS.out]; exact sumW_lack (fun y hy => flat_range hy) (by rw [dig64_length HD.out.1]; decide)
    have hs0 : 0 ≤ lack xs ∧ lack xs ≤ 192 := by rw [HS.out]; exact lack64 HD.out.1
    rw [hsl] at hsum
    have hc6 := hv.cell
    have hc7 := hsum.cell
    have HX : Hid (digs d = xs ++ digB (lack xs)) := by rw [HS.out]; rfl
    have HL64 : Hid (xs.length = 64) := by rw [HS.out]; exact dig64_length HD.out.1
    generalize hs : lack xs = s at *
    have HSS := Lib.hid hs; clear hs
    have HROW := Lib.hid hrow; have HFI := Lib.hid hin; have HKs := Lib.hid hK
    have hwr : IntKind.u8.wrap s = s := by simp [IntKind.wrap, IntKind.bits, IntKind.signed]; omega
    clear hin hrow hK hv hsl hsum
    gi_wp2_with fail
    refine wpIn_wide.2 ?_
    refine wp_region_noPanic ?_
    refine wp_region_held_drew (S := fun w' => w'.cell? ⟨p, 0, none⟩ = some (.slice (some ⟨b + 1, 0, none⟩) xs.length 68) ∧ w'.cell? ⟨p + 1, 0, none⟩ = some (.int .i64 s)) (by kernel_rfl) ⟨hc6, hc7⟩ (fun hHeld => ?_)
    refine wpAnyH_take (i := 0) (oi := _) (v := ?v0n1) rfl (by kernel_rfl) (by kernel_rfl) (by kernel_rfl) (fun _ _ _ h => h) (Or.inl ⟨by rfl, ?hy0n1⟩) (by assumption) ?rest0n1
    case hy0n1 =>
      intro w' hSw
      have hq := hSw.1
      go_simp
      try with_reducible rfl
    try simp only [Act.put, List.getElem_toArray, List.getElem_cons_succ, List.getElem_cons_zero, List.setIfInBounds_toArray, List.set_cons_zero, List.set_cons_succ]
    refine wpAnyH_take (i := 1) (oi := _) (v := ?v1n2) rfl (by kernel_rfl) (by kernel_rfl) (by kernel_rfl) (fun _ _ _ h => h) (Or.inl ⟨by rfl, ?hy1n2⟩) (by assumption) ?rest1n2
    case hy1n2 =>
      intro w' hSw
      have hq := hSw.2
      go_simp
      try with_reducible rfl
    try simp only [Act.put, List.getElem_toArray, List.getElem_cons_succ, List.getElem_cons_zero, List.setIfInBounds_toArray, List.set_cons_zero, List.set_cons_succ]
    refine wpAnyH_take (i := 2) (oi := _) (v := ?v2n3) rfl (by kernel_rfl) (by kernel_rfl) (by kernel_rfl) (fun _ _ _ h => h) (Or.inl ⟨by rfl, ?hy2n3⟩) (by assumption) ?rest2n3
    case hy2n3 =>
      intro w' hSw
      go_simp
      try with_reducible rfl
    try simp only [Act.put, List.getElem_toArray, List.getElem_cons_succ, List.getElem_cons_zero, List.setIfInBounds_toArray, List.set_cons_zero, List.set_cons_succ]
    refine wpAnyH_ready (rs := [3]) (by kernel_rfl) (by simp) (AllReadyH.cons (o := _) rfl (fun K hK => ?_) AllReadyH.nil)
    go_simp
    have HR4 := Lib.hid (show ((W.alloc (.cells #[Value.int .u8 s] 5)).drew).heap[W.heap.size]? = some (.cells #[Value.int .u8 s] 5 (0, 0)) from heap_alloc_new W _)
    have HB4 := Lib.hid (((Below.refl W.heap.size W).alloc (Nat.le_refl _) (.cells #[Value.int .u8 s] 5)).drew)
    have HZ4 := Lib.hid (show ((W.alloc (.cells #[Value.int .u8 s] 5)).drew).heap.size = W.heap.size + 1 by simp)
    generalize hw4 : World.drew (World.alloc W _) = w4
    rw [hw4] at HR4 HB4 HZ4
    clear hw4
    refine hK.out _ _ ⟨(HB4.out.cell (p := ⟨p, 0, none⟩) (by show p < _; omega)).trans hc6, (HB4.out.cell (p := ⟨p + 1, 0, none⟩) (by show p + 1 < _; omega)).trans hc7⟩ (fun hHeld => ?_)
    clear hK K
    try simp only [Act.put, List.getElem_toArray, List.getElem_cons_succ, List.getElem_cons_zero, List.setIfInBounds_toArray, List.set_cons_zero, List.set_cons_succ]
    refine wpAnyH_ready (rs := [4]) (by kernel_rfl) (by simp) (AllReadyH.cons (o := _) rfl (fun K hK => ?_) AllReadyH.nil)
    go_simp
    with_reducible refine (baseFour_any _ _ _ _).mono ?_
    rintro e w5 ⟨rfl, hw5⟩
    simp only [HZ4.out]
    have HB5 : Hid (Below W.heap.size W w5) := by rw [hw5]; exact HB4.out.alloc HB4.out.size _
    have HBF5 : Hid (BfIn w5 (W.heap.size + 1) W.heap.size 0 1 1 [s]) := ⟨by rw [hw5, ← HZ4.out]; exact heap_cellO (heap_alloc_new w4 _) rfl, rfl, fun x hx => by (rw [List.mem_singleton.1 hx]; omega), fun j hj => by
      obtain rfl : j = 0 := by omega
      rw [hw5]
      exact heap_cellO (L := [Value.int .u8 s]) ((heap_alloc_old w4 _ (by have := HZ4.out; omega)).trans HR4.out) rfl⟩
    have HCN : Hid (Calls Tryd.prog 28 #[.slice (some ⟨b + 1, 0, none⟩) xs.length 68, .func (.func 31) #[] #[.pointer (some ⟨W.heap.size + 1, 0, none⟩)]] w5 fun e w' => e = .returned (.slice (some ⟨b + 1, 0, none⟩) 68 68) ∧ OwnN w' (b + 1) (.slice (some ⟨b + 1, 0, none⟩) 68 68) (digs d) ∧ Below (b + 1) w5 w' ∧ ∀ k, k < w5.heap.size → k ≠ b + 1 → w'.heap[k]? = w5.heap[k]?) := by
      have hz5 : w5.heap.size = W.heap.size + 2 := by rw [hw5, World.size_alloc, HZ4.out]
      have h := appendSeqN_any (W.heap.size + 1) W.heap.size 0 1 1 [s] (b + 1) 68 xs (b + 1) w5 (by omega) (by have := HL64.out; simp only [List.length_singleton]; omega) (OwnN.below HROW.out HB5.out) (by omega) (by omega) (by omega) (by omega) (by omega) HBF5.out
      have e : xs ++ [s].flatMap digB = digs d := by rw [HX.out]; simp
      rw [e, digs_length HD.out.1] at h
      exact h
    have HQ5 : Hid (w5.cell? ⟨p, 0, none⟩ = some (.slice (some ⟨b + 1, 0, none⟩) xs.length 68) ∧ w5.cell? ⟨p + 1, 0, none⟩ = some (.int .i64 s)) := ⟨(HB5.out.cell (p := ⟨p, 0, none⟩) (by show p < _; omega)).trans hc6, (HB5.out.cell (p := ⟨p + 1, 0, none⟩) (by show p + 1 < _; omega)).trans hc7⟩
    have HZ5 : Hid (w5.heap.size = W.heap.size + 2) := by show _ = _; rw [hw5, World.size_alloc, HZ4.out]
    clear hw5
    go_wp2_with fail
    refine hK.out _ _ HQ5.out (fun hHeld => ?_)
    clear hK K
    try simp only [Act.put, List.getElem_toArray, List.getElem_cons_succ, List.getElem_cons_zero, List.setIfInBounds_toArray, List.set_cons_zero, List.set_cons_succ]
    refine wpAnyH_ready (rs := [5]) (by kernel_rfl) (by simp) (AllReadyH.cons (o := _) rfl (fun K hK => ?_) AllReadyH.nil)
    go_simp
    with_reducible refine (HCN.out).mono ?_
    rintro e w6 ⟨rfl, hown6, hbel6, hoth6⟩
    have HO6 := Lib.hid hown6; have HB6 := Lib.hid hbel6
    have HK6 : Hid (w6.heap[D]? = some (.deferred (some []))) := (hoth6 D (by have := HB5.out.size; have := (Array.getElem?_eq_some_iff.1 HKs.out).1; omega) (by omega)).trans ((HB5.out.block D (Array.getElem?_eq_some_iff.1 HKs.out).1).trans HKs.out)
    have hz5 := HZ5.out
    clear hown6 hbel6
    go_wp2_with fail
    refine hK.out _ _ ⟨(cell_oth hoth6 p (by omega) (by omega)).trans HQ5.out.1, (cell_oth hoth6 (p + 1) (by omega) (by omega)).trans HQ5.out.2⟩ (fun hHeld => ?_)
    clear hK K
    try simp only [Act.put, List.getElem_toArray, List.getElem_cons_succ, List.getElem_cons_zero, List.setIfInBounds_toArray, List.set_cons_zero, List.set_cons_succ]
    refine wpAnyH_take (i := 6) (oi := _) (v := ?v6n4) rfl (by kernel_rfl) (by kernel_rfl) (by kernel_rfl) (fun _ _ _ h => h) (Or.inl ⟨by rfl, ?hy6n4⟩) (by assumption) ?rest6n4
    case hy6n4 =>
      intro w' hSw
      go_simp
      try with_reducible rfl
    try simp only [Act.put, List.getElem_toArray, List.getElem_cons_succ, List.getElem_cons_zero, List.setIfInBounds_toArray, List.set_cons_zero, List.set_cons_succ]
    refine wpAnyH_done (by kernel_rfl) ?_ _
    refine NoPanic.normal ?_
    have hD2 : b + 1 ≤ D := by omega
    have hHB := HBZ.out
    gi_wp2_with fail
    refine ⟨by simp, .inl ⟨_, _, rfl, run_takeDeferred HK6.out, ?_⟩⟩
    refine ⟨.slice (some ⟨b + 1, 0, none⟩) 68 68, ?_, ?_⟩
    · simp [results, Tryd.f21, go_sem]
    · refine ⟨some ⟨b + 1, 0, none⟩, 68, rfl, OwnN.base (base := b + 1) ?_ (by omega), ?_⟩
      · have h := HO6.out
        exact ownsRow_putObj h _ HK6.out rfl
      · have x1 : Below (b + 1) W w5 := HB5.out.mono (by omega)
        have x2 := belowK_b (n₀ := b + 1) (w := w3) (by omega) w6 D _ (.deferred none) hD HK6.out rfl rfl
        have x3 := HFI.out.app.below.trans (x1.trans (HB6.out.trans x2))
        exact HB0.out.trans (x3.mono (by omega))
  case stop =>
    rintro D c pre W hD hSp hout hK
    exact hout.elim
end Go.Proofs.YtkeieacmboidoaaDoor
