/-
  One-time signatures: the walk of OnetimeApart (condition: two digests of 32 bytes).
-/
import Derived.Test.YtkeieacmboidoaaOneF
namespace Go.Proofs.Ytkeieacmboidoaa
open Go.RowKit Go.Proofs.Ytkeieacmboidoaa.One

def anyGt : List Int → List Int → Bool
  | x :: a, y :: b => decide (y < x) || anyGt a b
  | _, _ => false
theorem anyGt_snoc : ∀ {a b : List Int} (x y : Int), a.length = b.length → anyGt (a ++ [x]) (b ++ [y]) = (anyGt a b || decide (y < x))
  | [], [], x, y, _ => by simp [anyGt]
  | u :: a, v :: b, x, y, h => by
    simp only [List.cons_append, anyGt]
    rw [anyGt_snoc x y (by simpa using h), Bool.or_assoc]
theorem anyGt_self : ∀ a : List Int, anyGt a a = false
  | [] => rfl
  | x :: a => by simp [anyGt, anyGt_self a]
theorem anyGt_of : ∀ {a b : List Int} (i : Nat) (x y : Int), a[i]? = some x → b[i]? = some y → y < x → anyGt a b = true
  | u :: a, v :: b, 0, x, y, h1, h2, h => by
    simp at h1 h2; subst h1; subst h2; simp [anyGt, h]
  | u :: a, v :: b, i + 1, x, y, h1, h2, h => by
    simp only [anyGt]; rw [anyGt_of i x y (by simpa using h1) (by simpa using h2) h, Bool.or_true]
  | [], _, i, x, y, h1, _, _ => by simp at h1
  | _ :: _, [], i, x, y, _, h2, _ => by simp at h2
theorem anyGt_above {a b : List Int} (h : above a b) : anyGt a b = true := by
  obtain ⟨i, x, y, h1, h2, h3⟩ := h
  exact anyGt_of i x y h1 h2 h3
theorem take_getD (l : List Int) (k : Nat) (h : k < l.length) : l.take (k + 1) = l.take k ++ [l.getD k 0] := by
  rw [List.take_succ_eq_append_getElem h, List.getD_eq_getElem?_getD, List.getElem?_eq_getElem h]; rfl
theorem anyGt_take {a b : List Int} {k : Nat} (h1 : k < a.length) (h2 : k < b.length) : anyGt (a.take (k + 1)) (b.take (k + 1)) = (anyGt (a.take k) (b.take k) || decide (b.getD k 0 < a.getD k 0)) := by
  rw [take_getD a k h1, take_getD b k h2, anyGt_snoc _ _ (by rw [List.length_take, List.length_take]; omega)]
def eqT (a b : List Int) (k : Nat) : Bool := decide (a.take k = b.take k)
theorem eqT_succ {a b : List Int} {k : Nat} (h1 : k < a.length) (h2 : k < b.length) : eqT a b (k + 1) = (eqT a b k && (a.getD k 0 == b.getD k 0)) := by
  unfold eqT
  rw [take_getD a k h1, take_getD b k h2, Bool.eq_iff_iff]
  simp only [decide_eq_true_eq, Bool.and_eq_true, beq_iff_eq]
  constructor
  · intro h
    have := List.append_inj h (by rw [List.length_take, List.length_take]; omega)
    exact ⟨this.1, by simpa using this.2⟩
  · rintro ⟨h, h'⟩
    rw [h, h']
theorem apart_cases {d e : List Int} (hd : D32 d) (he : D32 e) : (eqT d e 16 = true ∧ anyGt (digs d) (digs e) = false ∧ anyGt (digs e) (digs d) = false) ∨ (eqT d e 16 = false ∧ anyGt (digs d) (digs e) = true ∧ anyGt (digs e) (digs d) = true) := by
  by_cases h : d.take 16 = e.take 16
  · refine .inl ⟨by simp [eqT, h], ?_, ?_⟩
    · rw [digs_same h]; exact anyGt_self _
    · rw [digs_same h]; exact anyGt_self _
  · refine .inr ⟨by simp [eqT, h], ?_, ?_⟩
    · exact anyGt_above (digs_above hd.1 he.1 (fun x hx => by have := hd.2 x hx; omega) (fun x hx => by have := he.2 x hx; omega) h)
    · exact anyGt_above (digs_above he.1 hd.1 (fun x hx => by have := he.2 x hx; omega) (fun x hx => by have := hd.2 x hx; omega) (fun e => h e.symm))

set_option maxRecDepth 100000 in
set_option maxHeartbeats 4000000 in
theorem onetimeApart_any (d e : List Int) (w : World) (hd : D32 d) (he : D32 e) :
    Calls Try.prog 4 #[.agg (dgA d), .agg (dgA e)] w fun e w' => e = .returned (.bool true) ∧ Below w.heap.size w w' := by
  have HD := Lib.hid hd; have HE := Lib.hid he
  have HID := Lib.hid (info_d hd); have HIE := Lib.hid (info_d he)
  have HLD := Lib.hid (digs_length hd.1); have HLE := Lib.hid (digs_length he.1)
  have HAC := Lib.hid (apart_cases hd he)
  have HN := Lib.hid ((heap_alloc_old (w.alloc (.cells (dgA d) 23)) (.cells (dgA e) 23) (show w.heap.size < _ by simp)).trans (heap_alloc_new w (.cells (dgA d) 23)))
  have HN2 := Lib.hid (heap_alloc_new (w.alloc (.cells (dgA d) 23)) (.cells (dgA e) 23))
  have HB := Lib.hid (((Below.refl w.heap.size w).alloc (Nat.le_refl _) (.cells (dgA d) 23)).alloc (by simp) (.cells (dgA e) 23))
  have HZ := Lib.hid (show ((w.alloc (.cells (dgA d) 23)).alloc (.cells (dgA e) 23)).heap.size = w.heap.size + 2 by simp)
  have HCA := Lib.hid (fun w' => show Calls Try.prog 5 #[.agg (d.map (Value.int .u8)).toArray] w' _ from digits_any d hd w')
  have HCB := Lib.hid (fun w' => show Calls Try.prog 5 #[.agg (e.map (Value.int .u8)).toArray] w' _ from digits_any e he w')
  clear hd he
  go_enter Try.func4, Try.ntmps4
  go_wp2_with fail
  generalize hw0 : World.alloc (World.alloc w _) _ = w0
  have HG1 : Hid (w0.heap[w.heap.size]? = some (.cells (dgA d) 23 (0, 0))) := by rw [← hw0]; exact HN.out
  have HG2 : Hid (w0.heap[w.heap.size + 1]? = some (.cells (dgA e) 23 (0, 0))) := by rw [← hw0]; have h := HN2.out; rw [World.size_alloc] at h; exact h
  have HR1 : Hid (w0.rangeAt w.heap.size 0 (d.map (Value.int .u8))) := by
    intro j v hv; rw [Nat.zero_add]; exact heap_cellO HG1.out hv
  have HR2 : Hid (w0.rangeAt (w.heap.size + 1) 0 (e.map (Value.int .u8))) := by
    intro j v hv; rw [Nat.zero_add]; exact heap_cellO HG2.out hv
  have HB0 : Hid (Below w.heap.size w w0) := by rw [← hw0]; exact HB.out
  have hs0 : w.heap.size + 1 < w0.heap.size := by have := HZ.out; rw [hw0] at this; omega
  clear hw0 HN HN2 HB HZ
  go_loopw [5, 6] (fun s i wr => ∃ k n : Nat, k ≤ 16 ∧ i = .int .i64 k ∧ s = .bool (eqT d e k) ∧ wr = w0.drewN n) (fun _ i _ => 16 - (intOf i).toNat)
  case atStart => exact ⟨0, 0, by omega, rfl, by simp [eqT], rfl⟩
  case round =>
    obtain ⟨k, n, hk, rfl, rfl, hwr⟩ := hrel
    have HWR := Lib.hid hwr; clear hwr
    by_cases hlt : k < 16
    · have HSU := Lib.hid (eqT_succ (a := d) (b := e) (k := k) (by have := HD.out.1; omega) (by have := HE.out.1; omega))
      have c1 : wr.cell? ⟨w.heap.size, k, none⟩ = some (.int .u8 (d.getD k 0)) := by rw [HWR.out]; exact heap_cellO HG1.out (getD_mapD d k (by have := HD.out.1; omega))
      have c2 : wr.cell? ⟨w.heap.size + 1, k, none⟩ = some (.int .u8 (e.getD k 0)) := by rw [HWR.out]; exact heap_cellO HG2.out (getD_mapD e k (by have := HE.out.1; omega))
      generalize d.getD k 0 = x at *
      generalize e.getD k 0 = y at *
      generalize eqT d e k = q at *
      have hd1 : decide ((k : Int) < 16) = true := by simp; omega
      have p1 : (0 : Int) ≤ (k : Int) := by omega
      have p2 : (k : Int) < 16 := by omega
      cases q
      · go_wp2_with fail
        go_quiet (fail)
        go_wp2
        go_roundw
        case rel => exact ⟨k + 1, n + nq, by omega, by go_num, by rw [HSU.out]; rfl, by rw [HWR.out, World.drewN_drewN]⟩
        case measure => simp [intOf]; omega
      · cases hxy : (x == y)
        all_goals
          rw [hxy] at HSU
          go_wp2_with fail
          go_quiet (fail)
          go_wp2
          go_roundw
          case rel => exact ⟨k + 1, n + nq, by omega, by go_num, by rw [HSU.out]; rfl, by rw [HWR.out, World.drewN_drewN]⟩
          case measure => simp [intOf]; omega
    · obtain rfl : k = 16 := by omega
      have HWB : Hid (Below w0.heap.size w0 wr) := by rw [HWR.out]; exact below_drewN (Below.refl _ _) _
      have HRA : Hid (wr.rangeAt w.heap.size 0 (d.map (Value.int .u8))) := range_belowG HR1.out HWB.out (by omega)
      have HRB : Hid (wr.rangeAt (w.heap.size + 1) 0 (e.map (Value.int .u8))) := range_belowG HR2.out HWB.out (by omega)
      have hs1 : w.heap.size + 1 < wr.heap.size := by have := HWB.out.size; omega
      have hs2 : w.heap.size < wr.heap.size := by omega
      have HBA : Hid (Below w.heap.size w wr) := HB0.out.trans (HWB.out.mono (by omega))
      clear HR1 HR2 HG1 HG2 HWR HWB hs0
      simp only [show ((16 : Nat) : Int) = 16 from rfl]
      generalize eqT d e 16 = q at *
      go_wp2_with fail
      refine wp_region_held_drew (S := fun w' => Below wr.heap.size wr w') (by kernel_rfl) (Below.refl _ _).drew (fun hHeld => ?_)
      refine' wpAnyH_take (i := 0) (oi := _) (v := _) rfl (by kernel_rfl) (by kernel_rfl) (by kernel_rfl) (fun _ _ _ h => h) (yieldsIf_load_mid (by rfl) _ _ rfl _ _ rfl _ _ ?hS0n1 Try.underlying23 rfl HID.out) (by assumption) ?rest0n1
      case hS0n1 =>
        intro w' hSw
        exact range_belowG HRA.out hSw hs2
      try simp only [Act.put, List.getElem_toArray, List.getElem_cons_succ, List.getElem_cons_zero, List.setIfInBounds_toArray, List.set_cons_zero, List.set_cons_succ]
      refine' wpAnyH_take (i := 2) (oi := _) (v := _) rfl (by kernel_rfl) (by kernel_rfl) (by kernel_rfl) (fun _ _ _ h => h) (yieldsIf_load_mid (by rfl) _ _ rfl _ _ rfl _ _ ?hS2n2 Try.underlying23 rfl HIE.out) (by assumption) ?rest2n2
      case hS2n2 =>
        intro w' hSw
        exact range_belowG HRB.out hSw hs1
      try simp only [Act.put, List.getElem_toArray, List.getElem_cons_succ, List.getElem_cons_zero, List.setIfInBounds_toArray, List.set_cons_zero, List.set_cons_succ]
      refine wpAnyH_ready (rs := [1]) (by kernel_rfl) (by simp) (AllReadyH.cons (o := _) rfl (fun K hK => ?_) AllReadyH.nil)
      go_simp
      with_reducible refine (HCA.out _).mono ?_
      rintro e w1 ⟨sp1, cap1, rfl, hown1, hb1⟩
      have HB1 : Hid (Below wr.heap.size wr w1) := hHeld.trans (hb1.mono hHeld.size)
      have HO1a := Lib.hid hown1
      clear hown1 hb1
      go_wp2_with fail
      refine hK.out _ _ HB1.out (fun hHeld => ?_)
      clear hK K
      try simp only [Act.put, List.getElem_toArray, List.getElem_cons_succ, List.getElem_cons_zero, List.setIfInBounds_toArray, List.set_cons_zero, List.set_cons_succ]
      refine wpAnyH_ready (rs := [3]) (by kernel_rfl) (by simp) (AllReadyH.cons (o := _) rfl (fun K hK => ?_) AllReadyH.nil)
      go_simp
      with_reducible refine (HCB.out _).mono ?_
      rintro e w2 ⟨sp2, cap2, rfl, hown2, hb2⟩
      have HB2 : Hid (Below wr.heap.size wr w2) := HB1.out.trans (hb2.mono HB1.out.size)
      have HO1 := Lib.hid (HO1a.out.below hb2)
      have HO2 := Lib.hid hown2
      clear hown2 hb2
      go_wp2_with fail
      refine hK.out _ _ HB2.out (fun hHeld => ?_)
      clear hK K
      try simp only [Act.put, List.getElem_toArray, List.getElem_cons_succ, List.getElem_cons_zero, List.setIfInBounds_toArray, List.set_cons_zero, List.set_cons_succ]
      refine wpAnyH_take (i := 4) (oi := _) (v := ?v4n3) rfl (by kernel_rfl) (by kernel_rfl) (by kernel_rfl) (fun _ _ _ h => h) (Or.inl ⟨by rfl, ?hy4n3⟩) (by assumption) ?rest4n3
      case hy4n3 =>
        intro w' hSw
        go_simp
        try with_reducible rfl
      try simp only [Act.put, List.getElem_toArray, List.getElem_cons_succ, List.getElem_cons_zero, List.setIfInBounds_toArray, List.set_cons_zero, List.set_cons_succ]
      refine wpAnyH_take (i := 5) (oi := _) (v := ?v5n4) rfl (by kernel_rfl) (by kernel_rfl) (by kernel_rfl) (fun _ _ _ h => h) (Or.inl ⟨by rfl, ?hy5n4⟩) (by assumption) ?rest5n4
      case hy5n4 =>
        intro w' hSw
        go_simp
        try with_reducible rfl
      try simp only [Act.put, List.getElem_toArray, List.getElem_cons_succ, List.getElem_cons_zero, List.setIfInBounds_toArray, List.set_cons_zero, List.set_cons_succ]
      refine wpAnyH_done (by kernel_rfl) ?_ _
      go_wp2_with fail
      obtain ⟨g1, rfl, hg1, hc1, hr1⟩ := HO1.out.cells HLD.out (by decide)
      obtain ⟨g2, rfl, hg2, hc2, hr2⟩ := HO2.out.cells HLE.out (by decide)
      have HR1 := Lib.hid hr1; have HR2 := Lib.hid hr2
      clear hr1 hr2 HCA HCB
      go_loopw [9, 10, 11] (fun m l i wr => ∃ k n : Nat, k ≤ 68 ∧ i = .int .i64 k ∧ m = .bool (anyGt ((digs d).take k) ((digs e).take k)) ∧ l = .bool (anyGt ((digs e).take k) ((digs d).take k)) ∧ wr = w2.drewN n) (fun _ _ i _ => 68 - (intOf i).toNat)
      case atStart => exact ⟨0, 0, by omega, rfl, rfl, rfl, rfl⟩
      case round =>
        obtain ⟨k, n, hk, rfl, rfl, rfl, hwr⟩ := hrel
        have HWR := Lib.hid hwr; clear hwr
        by_cases hlt : k < 68
        · have HS1 := Lib.hid (anyGt_take (a := digs d) (b := digs e) (k := k) (by have := HLD.out; omega) (by have := HLE.out; omega))
          have HS2 := Lib.hid (anyGt_take (a := digs e) (b := digs d) (k := k) (by have := HLE.out; omega) (by have := HLD.out; omega))
          have c1 : wr.cell? ⟨g1, k, none⟩ = some (.int .i64 ((digs d).getD k 0)) := by rw [HWR.out]; exact HR1.out k hlt
          have c2 : wr.cell? ⟨g2, k, none⟩ = some (.int .i64 ((digs e).getD k 0)) := by rw [HWR.out]; exact HR2.out k hlt
          generalize (digs d).getD k 0 = x at *
          generalize (digs e).getD k 0 = y at *
          generalize anyGt ((digs d).take k) ((digs e).take k) = m at *
          generalize anyGt ((digs e).take k) ((digs d).take k) = l at *
          have hd1 : decide ((k : Int) < 68) = true := by simp; omega
          have p1 : (0 : Int) ≤ (k : Int) := by omega
          have p2 : (k : Int) < 68 := by omega
          rcases (by omega : y < x ∨ x < y ∨ x = y) with h | h | h
          all_goals
            have q1 : decide (x > y) = decide (y < x) := rfl
            first
              | (have q3 : decide (y < x) = true := by simp; omega)
              | (have q3 : decide (y < x) = false := by simp; omega)
            first
              | (have q4 : decide (x < y) = true := by simp; omega)
              | (have q4 : decide (x < y) = false := by simp; omega)
            rw [q3] at q1 HS1
            rw [q4] at HS2
            clear h
            cases m <;> cases l
            all_goals
              go_wp2_with fail
              go_quiet (fail)
              go_wp2
              go_roundw
              case rel => exact ⟨k + 1, n + nq, by omega, by go_num, by rw [HS1.out]; rfl, by rw [HS2.out]; rfl, by rw [HWR.out, World.drewN_drewN]⟩
              case measure => simp [intOf]; omega
        · obtain rfl : k = 68 := by omega
          have e1 : (digs d).take 68 = digs d := List.take_of_length_le (Nat.le_of_eq HLD.out)
          have e2 : (digs e).take 68 = digs e := List.take_of_length_le (Nat.le_of_eq HLE.out)
          rw [e1, e2]
          clear e1 e2
          have HBW : Hid (Below w.heap.size w wr) := by rw [HWR.out]; exact below_drewN (HBA.out.trans (HB2.out.mono (by omega))) _
          have HF := Lib.hid HAC.out
          generalize anyGt (digs d) (digs e) = m at *
          generalize anyGt (digs e) (digs d) = l at *
          rcases HF.out with ⟨rfl, rfl, rfl⟩ | ⟨rfl, rfl, rfl⟩
          all_goals
            clear HF
            go_wp2_with fail
            refine (awake8_any wr).mono ?_
            rintro e w5 ⟨rfl, hb5⟩
            have HB5 := Lib.hid hb5; clear hb5
            go_wp2
            go_ret
            exact ⟨rfl, HBW.out.trans (HB5.out.mono HBW.out.size)⟩
end Go.Proofs.Ytkeieacmboidoaa
