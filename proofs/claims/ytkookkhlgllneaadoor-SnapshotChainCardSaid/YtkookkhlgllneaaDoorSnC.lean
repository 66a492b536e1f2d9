/-
  The walks of ascending, Valid and validChanges (conditions: at most 1000000 elements, digests of 32 bytes).
-/
import Derived.Test.YtkookkhlgllneaaDoorSnB
import Derived.Deep.RegionWith
import Derived.IntWalk
import Derived.Laws.Cover1
namespace Go.Proofs.YtkookkhlgllneaaDoor
open Go.RowKit

set_option maxRecDepth 100000 in
set_option maxHeartbeats 400000 in
theorem ascendE_any (sp : Option Addr) (n cap : Nat) (l : List En) (w : World) (hl : EnsIn w w.heap.size sp n cap l) (hn : n ≤ 1000000) :
    Calls Tryd.prog 53 #[.slice sp n cap, .func (.func 54) #[] #[]] w fun e w' => e = .returned (.bool (ascB En.p l)) ∧ Below w.heap.size w w' := by
  have HL := Lib.hid hl
  clear hl
  go_enter Tryd.func53, Tryd.ntmps53
  go_wp2_with fail
  go_loopw [5] (fun i wr => ∃ k : Nat, k ≤ n ∧ i = .int .i64 ((k : Int) + 1) ∧ Hid (upto En.p l k = true) ∧ Hid (Below w.heap.size w wr)) (fun i _ => n + 1 - (intOf i).toNat)
  case atStart => exact ⟨0, Nat.zero_le _, rfl, rfl, Below.refl _ _⟩
  case round =>
    obtain ⟨k, hk, rfl, HA, hbe⟩ := hrel
    by_cases hlt : k + 1 < n
    · have hd : decide ((k : Int) + 1 < (n : Int)) = true := by simp; omega
      obtain ⟨b, off, rfl, hbB, hcap, hr⟩ := HL.out.cells (by omega)
      have hkl : k + 1 < l.length := by rw [HL.out.len]; exact hlt
      obtain ⟨x, hx⟩ : ∃ x, l[k]? = some x := ⟨l[k], List.getElem?_eq_getElem (by omega)⟩
      obtain ⟨y, hy⟩ : ∃ y, l[k + 1]? = some y := ⟨l[k + 1], List.getElem?_eq_getElem hkl⟩
      have HX := Lib.hid (fun w' (hb : Below w.heap.size w w') => range_belowS (hr k x hx) hb hbB)
      have HY := Lib.hid (fun w' (hb : Below w.heap.size w w') => range_belowS (hr (k + 1) y hy) hb hbB)
      have HIX := Lib.hid (info_e (HL.out.ok x (List.mem_of_getElem? hx)))
      have HIY := Lib.hid (info_e (HL.out.ok y (List.mem_of_getElem? hy)))
      have HT := Lib.hid (upto_succ (f := En.p) hx hy)
      have p1 : (0 : Int) ≤ (k : Int) := by omega
      have p2 : (k : Int) < (n : Int) := by omega
      have p3 : (0 : Int) ≤ (k : Int) + 1 := by omega
      have p4 : (k : Int) + 1 < (n : Int) := by omega
      have q1 : (k : Int) + 1 - 1 = (k : Int) := by omega
      have q2 : ((k : Int) + 1).toNat = k + 1 := by omega
      have q3 : IntKind.i64.wrap ((k : Int) + 1 - 1) = (k : Int) := by rw [q1]; exact IntWalk.i64_in _ (by omega)
      have q4 : IntKind.i64.wrap (k : Int) = (k : Int) := IntWalk.i64_in _ (by omega)
      have q5 : IntKind.i64.wrap ((k : Int) + 1) = (k : Int) + 1 := IntWalk.i64_in _ (by omega)
      clear hr hx hy hkl
      have HALL : Hid (∀ w', Below w.heap.size w w' → w'.rangeAt b (off + k * 33) (enL x) ∧ w'.rangeAt b (off + (k + 1) * 33) (enL y)) := fun w' hb => ⟨HX.out _ hb, HY.out _ hb⟩
      have hbd := hbe.out.drew
      obtain ⟨c, hc⟩ : ∃ c, Op.bytesLess x.p.toList y.p.toList = c := ⟨_, rfl⟩
      have HC : Hid (pls x.p y.p = c) := hc
      go_wp2_with fail
      refine wp_region_held_drew (S := fun w' => w'.rangeAt b (off + k * 33) (enL x) ∧ w'.rangeAt b (off + (k + 1) * 33) (enL y)) (by kernel_rfl) (HALL.out _ hbd) (fun hHeld => ?_)
      refine wpAnyH_take (i := 0) (oi := _) (v := ?v0) rfl (by kernel_rfl) (by kernel_rfl) (by kernel_rfl) (fun _ _ _ h => h) (Or.inl ⟨by rfl, ?hy0⟩) (by assumption) ?rest0
      case hy0 =>
        intro w' hSw
        go_simp
        try with_reducible rfl
      try simp only [Act.put, List.getElem_toArray, List.getElem_cons_zero, List.setIfInBounds_toArray, List.set_cons_zero, List.set_cons_succ]
      refine wpAnyH_take (i := 1) (oi := _) (v := ?v1) rfl (by kernel_rfl) (by kernel_rfl) (by kernel_rfl) (fun _ _ _ h => h) (Or.inl ⟨by rfl, ?hy1⟩) (by assumption) ?rest1
      case hy1 =>
        intro w' hSw
        go_simp
        try with_reducible rfl
      try simp only [Act.put, List.getElem_toArray, List.getElem_cons_succ, List.getElem_cons_zero, List.setIfInBounds_toArray, List.set_cons_zero, List.set_cons_succ]
      refine wpAnyH_take (i := 2) (oi := _) (v := ?v2) rfl (by kernel_rfl) (by kernel_rfl) (by kernel_rfl) (fun _ _ _ h => h) (Or.inl ⟨by rfl, ?hy2⟩) (by assumption) ?rest2
      case hy2 =>
        intro w' hSw
        go_simp
        try with_reducible rfl
      try simp only [Act.put, List.getElem_toArray, List.getElem_cons_succ, List.getElem_cons_zero, List.setIfInBounds_toArray, List.set_cons_zero, List.set_cons_succ]
      refine wpAnyH_take (i := 3) (oi := _) (v := ?v3) rfl (by kernel_rfl) (by kernel_rfl) (by kernel_rfl) (fun _ _ _ h => h) (Or.inl ⟨by rfl, ?hy3⟩) (by assumption) ?rest3
      case hy3 =>
        intro w' hSw
        go_simp
        try with_reducible rfl
      try simp only [Act.put, List.getElem_toArray, List.getElem_cons_succ, List.getElem_cons_zero, List.setIfInBounds_toArray, List.set_cons_zero, List.set_cons_succ]
      refine wpAnyH_take (i := 4) (oi := _) (v := ?v4) rfl (by kernel_rfl) (by kernel_rfl) (by kernel_rfl) (fun _ _ _ h => h) (Or.inl ⟨by rfl, ?hy4⟩) (by assumption) ?rest4
      case hy4 =>
        intro w' hSw
        go_simp
        try with_reducible rfl
      try simp only [Act.put, List.getElem_toArray, List.getElem_cons_succ, List.getElem_cons_zero, List.setIfInBounds_toArray, List.set_cons_zero, List.set_cons_succ]
      refine wpAnyH_take (i := 7) (oi := _) (v := ?v7) rfl (by kernel_rfl) (by kernel_rfl) (by kernel_rfl) (fun _ _ _ h => h) (Or.inl ⟨by rfl, ?hy7⟩) (by assumption) ?rest7
      case hy7 =>
        intro w' hSw
        go_simp
        try with_reducible rfl
      try simp only [Act.put, List.getElem_toArray, List.getElem_cons_succ, List.getElem_cons_zero, List.setIfInBounds_toArray, List.set_cons_zero, List.set_cons_succ]
      refine wpAnyH_take (i := 8) (oi := _) (v := ?v8) rfl (by kernel_rfl) (by kernel_rfl) (by kernel_rfl) (fun _ _ _ h => h) (Or.inl ⟨by rfl, ?hy8⟩) (by assumption) ?rest8
      case hy8 =>
        intro w' hSw
        go_simp
        try with_reducible rfl
      try simp only [Act.put, List.getElem_toArray, List.getElem_cons_succ, List.getElem_cons_zero, List.setIfInBounds_toArray, List.set_cons_zero, List.set_cons_succ]
      refine wpAnyH_take (i := 9) (oi := _) (v := ?v9) rfl (by kernel_rfl) (by kernel_rfl) (by kernel_rfl) (fun _ _ _ h => h) (Or.inl ⟨by rfl, ?hy9⟩) (by assumption) ?rest9
      case hy9 =>
        intro w' hSw
        go_simp
        try with_reducible rfl
      try simp only [Act.put, List.getElem_toArray, List.getElem_cons_succ, List.getElem_cons_zero, List.setIfInBounds_toArray, List.set_cons_zero, List.set_cons_succ]
      refine wpAnyH_take (i := 10) (oi := _) (v := ?v10) rfl (by kernel_rfl) (by kernel_rfl) (by kernel_rfl) (fun _ _ _ h => h) (Or.inl ⟨by rfl, ?hy10⟩) (by assumption) ?rest10
      case hy10 =>
        intro w' hSw
        go_simp
        try with_reducible rfl
      try simp only [Act.put, List.getElem_toArray, List.getElem_cons_succ, List.getElem_cons_zero, List.setIfInBounds_toArray, List.set_cons_zero, List.set_cons_succ]
      refine' wpAnyH_take (i := 5) (oi := _) (v := _) rfl (by kernel_rfl) (by kernel_rfl) (by kernel_rfl) (fun _ _ _ h => h) (yieldsIf_load_mid (by rfl) _ _ rfl _ _ rfl _ _ ?hS5 Tryd.underlying70 rfl HIX.out) (by assumption) ?rest5
      case hS5 =>
        intro w' hSw
        exact hSw.1
      try simp only [Act.put, List.getElem_toArray, List.getElem_cons_succ, List.getElem_cons_zero, List.setIfInBounds_toArray, List.set_cons_zero, List.set_cons_succ]
      refine' wpAnyH_take (i := 11) (oi := _) (v := _) rfl (by kernel_rfl) (by kernel_rfl) (by kernel_rfl) (fun _ _ _ h => h) (yieldsIf_load_mid (by rfl) _ _ rfl _ _ rfl _ _ ?hS11 Tryd.underlying70 rfl HIY.out) (by assumption) ?rest11
      case hS11 =>
        intro w' hSw
        exact hSw.2
      try simp only [Act.put, List.getElem_toArray, List.getElem_cons_succ, List.getElem_cons_zero, List.setIfInBounds_toArray, List.set_cons_zero, List.set_cons_succ]
      refine wpAnyH_ready (rs := [6]) (by kernel_rfl) (by simp) (AllReadyH.cons (o := _) rfl (fun K hK => ?_) AllReadyH.nil)
      go_simp
      with_reducible refine (entryPath_any x _).mono ?_
      rintro e w1 ⟨rfl, hb1⟩
      go_wp2_with fail
      refine hK.out _ _ (HALL.out _ (hbd.trans (hb1.mono hbd.size))) (fun hHeld => ?_)
      clear hK K
      try simp only [Act.put, List.getElem_toArray, List.getElem_cons_succ, List.getElem_cons_zero, List.setIfInBounds_toArray, List.set_cons_zero, List.set_cons_succ]
      refine wpAnyH_ready (rs := [12]) (by kernel_rfl) (by simp) (AllReadyH.cons (o := _) rfl (fun K hK => ?_) AllReadyH.nil)
      go_simp
      with_reducible refine (entryPath_any y _).mono ?_
      rintro e w2 ⟨rfl, hb2⟩
      go_wp2_with fail
      refine hK.out _ _ (HALL.out _ (hbd.trans ((hb1.trans (hb2.mono hb1.size)).mono hbd.size))) (fun hHeld => ?_)
      clear hK K
      try simp only [Act.put, List.getElem_toArray, List.getElem_cons_succ, List.getElem_cons_zero, List.setIfInBounds_toArray, List.set_cons_zero, List.set_cons_succ]
      refine wpAnyH_take (i := 13) (oi := _) (v := ?v13) rfl (by kernel_rfl) (by kernel_rfl) (by kernel_rfl) (fun _ _ _ h => h) (Or.inl ⟨by rfl, ?hy13⟩) (by assumption) ?rest13
      case hy13 =>
        intro w' hSw
        go_simp
        try with_reducible rfl
      try simp only [Act.put, List.getElem_toArray, List.getElem_cons_succ, List.getElem_cons_zero, List.setIfInBounds_toArray, List.set_cons_zero, List.set_cons_succ]
      refine wpAnyH_done (by kernel_rfl) ?_ _
      have HB2 := Lib.hid (hbd.trans ((hb1.trans (hb2.mono hb1.size)).mono hbd.size))
      clear hb1 hb2 hbd hHeld hc
      have HM : Hid (upto En.p l (k + 1) = c) := by show _ = _; rw [HT.out, HA.out, HC.out]; rfl
      cases c
      · have HZ : Hid (ascB En.p l = false) := upto_false HM.out (by rw [HL.out.len]; omega)
        go_wp2_with fail
        go_ret
        exact ⟨ret_boolP HZ.out.symm, HB2.out⟩
      · go_wp2_with fail
        go_roundw
        case rel => exact ⟨k + 1, by omega, by go_num, HM.out, HB2.out⟩
        case measure => simp [intOf]; omega
    · have hd : decide ((k : Int) + 1 < (n : Int)) = false := by simp; omega
      have HZ : Hid (ascB En.p l = true) := by
        show upto En.p l (l.length - 1) = true
        have h1 := HA.out
        unfold upto at h1 ⊢
        rw [List.all_eq_true] at h1 ⊢
        intro i hi
        exact h1 i (by simp at hi ⊢; have := HL.out.len; omega)
      go_wp2_with fail
      go_ret
      exact ⟨ret_boolP HZ.out.symm, hbe.out⟩
set_option maxRecDepth 100000 in
set_option maxHeartbeats 400000 in
theorem ascendC_any (sp : Option Addr) (n cap : Nat) (l : List Cg) (w : World) (hl : CgsIn w w.heap.size sp n cap l) (hn : n ≤ 1000000) :
    Calls Tryd.prog 107 #[.slice sp n cap, .func (.func 108) #[] #[]] w fun e w' => e = .returned (.bool (ascB Cg.p l)) ∧ Below w.heap.size w w' := by
  have HL := Lib.hid hl
  clear hl
  go_enter Tryd.func107, Tryd.ntmps107
  go_wp2_with fail
  go_loopw [5] (fun i wr => ∃ k : Nat, k ≤ n ∧ i = .int .i64 ((k : Int) + 1) ∧ Hid (upto Cg.p l k = true) ∧ Hid (Below w.heap.size w wr)) (fun i _ => n + 1 - (intOf i).toNat)
  case atStart => exact ⟨0, Nat.zero_le _, rfl, rfl, Below.refl _ _⟩
  case round =>
    obtain ⟨k, hk, rfl, HA, hbe⟩ := hrel
    by_cases hlt : k + 1 < n
    · have hd : decide ((k : Int) + 1 < (n : Int)) = true := by simp; omega
      obtain ⟨b, off, rfl, hbB, hcap, hr⟩ := HL.out.cells (by omega)
      have hkl : k + 1 < l.length := by rw [HL.out.len]; exact hlt
      obtain ⟨x, hx⟩ : ∃ x, l[k]? = some x := ⟨l[k], List.getElem?_eq_getElem (by omega)⟩
      obtain ⟨y, hy⟩ : ∃ y, l[k + 1]? = some y := ⟨l[k + 1], List.getElem?_eq_getElem hkl⟩
      have HX := Lib.hid (fun w' (hb : Below w.heap.size w w') => range_belowS (hr k x hx) hb hbB)
      have HY := Lib.hid (fun w' (hb : Below w.heap.size w w') => range_belowS (hr (k + 1) y hy) hb hbB)
      have HIX := Lib.hid (info_c (HL.out.ok x (List.mem_of_getElem? hx)))
      have HIY := Lib.hid (info_c (HL.out.ok y (List.mem_of_getElem? hy)))
      have HT := Lib.hid (upto_succ (f := Cg.p) hx hy)
      have p1 : (0 : Int) ≤ (k : Int) := by omega
      have p2 : (k : Int) < (n : Int) := by omega
      have p3 : (0 : Int) ≤ (k : Int) + 1 := by omega
      have p4 : (k : Int) + 1 < (n : Int) := by omega
      have q1 : (k : Int) + 1 - 1 = (k : Int) := by omega
      have q2 : ((k : Int) + 1).toNat = k + 1 := by omega
      have q3 : IntKind.i64.wrap ((k : Int) + 1 - 1) = (k : Int) := by rw [q1]; exact IntWalk.i64_in _ (by omega)
      have q4 : IntKind.i64.wrap (k : Int) = (k : Int) := IntWalk.i64_in _ (by omega)
      have q5 : IntKind.i64.wrap ((k : Int) + 1) = (k : Int) + 1 := IntWalk.i64_in _ (by omega)
      clear hr hx hy hkl
      have HALL : Hid (∀ w', Below w.heap.size w w' → w'.rangeAt b (off + k * 65) (cgL x) ∧ w'.rangeAt b (off + (k + 1) * 65) (cgL y)) := fun w' hb => ⟨HX.out _ hb, HY.out _ hb⟩
      have hbd := hbe.out.drew
      obtain ⟨c, hc⟩ : ∃ c, Op.bytesLess x.p.toList y.p.toList = c := ⟨_, rfl⟩
      have HC : Hid (pls x.p y.p = c) := hc
      go_wp2_with fail
      refine wp_region_held_drew (S := fun w' => w'.rangeAt b (off + k * 65) (cgL x) ∧ w'.rangeAt b (off + (k + 1) * 65) (cgL y)) (by kernel_rfl) (HALL.out _ hbd) (fun hHeld => ?_)
      refine wpAnyH_take (i := 0) (oi := _) (v := ?v0) rfl (by kernel_rfl) (by kernel_rfl) (by kernel_rfl) (fun _ _ _ h => h) (Or.inl ⟨by rfl, ?hy0⟩) (by assumption) ?rest0
      case hy0 =>
        intro w' hSw
        go_simp
        try with_reducible rfl
      try simp only [Act.put, List.getElem_toArray, List.getElem_cons_zero, List.setIfInBounds_toArray, List.set_cons_zero, List.set_cons_succ]
      refine wpAnyH_take (i := 1) (oi := _) (v := ?v1) rfl (by kernel_rfl) (by kernel_rfl) (by kernel_rfl) (fun _ _ _ h => h) (Or.inl ⟨by rfl, ?hy1⟩) (by assumption) ?rest1
      case hy1 =>
        intro w' hSw
        go_simp
        try with_reducible rfl
      try simp only [Act.put, List.getElem_toArray, List.getElem_cons_succ, List.getElem_cons_zero, List.setIfInBounds_toArray, List.set_cons_zero, List.set_cons_succ]
      refine wpAnyH_take (i := 2) (oi := _) (v := ?v2) rfl (by kernel_rfl) (by kernel_rfl) (by kernel_rfl) (fun _ _ _ h => h) (Or.inl ⟨by rfl, ?hy2⟩) (by assumption) ?rest2
      case hy2 =>
        intro w' hSw
        go_simp
        try with_reducible rfl
      try simp only [Act.put, List.getElem_toArray, List.getElem_cons_succ, List.getElem_cons_zero, List.setIfInBounds_toArray, List.set_cons_zero, List.set_cons_succ]
      refine wpAnyH_take (i := 3) (oi := _) (v := ?v3) rfl (by kernel_rfl) (by kernel_rfl) (by kernel_rfl) (fun _ _ _ h => h) (Or.inl ⟨by rfl, ?hy3⟩) (by assumption) ?rest3
      case hy3 =>
        intro w' hSw
        go_simp
        try with_reducible rfl
      try simp only [Act.put, List.getElem_toArray, List.getElem_cons_succ, List.getElem_cons_zero, List.setIfInBounds_toArray, List.set_cons_zero, List.set_cons_succ]
      refine wpAnyH_take (i := 4) (oi := _) (v := ?v4) rfl (by kernel_rfl) (by kernel_rfl) (by kernel_rfl) (fun _ _ _ h => h) (Or.inl ⟨by rfl, ?hy4⟩) (by assumption) ?rest4
      case hy4 =>
        intro w' hSw
        go_simp
        try with_reducible rfl
      try simp only [Act.put, List.getElem_toArray, List.getElem_cons_succ, List.getElem_cons_zero, List.setIfInBounds_toArray, List.set_cons_zero, List.set_cons_succ]
      refine wpAnyH_take (i := 7) (oi := _) (v := ?v7) rfl (by kernel_rfl) (by kernel_rfl) (by kernel_rfl) (fun _ _ _ h => h) (Or.inl ⟨by rfl, ?hy7⟩) (by assumption) ?rest7
      case hy7 =>
        intro w' hSw
        go_simp
        try with_reducible rfl
      try simp only [Act.put, List.getElem_toArray, List.getElem_cons_succ, List.getElem_cons_zero, List.setIfInBounds_toArray, List.set_cons_zero, List.set_cons_succ]
      refine wpAnyH_take (i := 8) (oi := _) (v := ?v8) rfl (by kernel_rfl) (by kernel_rfl) (by kernel_rfl) (fun _ _ _ h => h) (Or.inl ⟨by rfl, ?hy8⟩) (by assumption) ?rest8
      case hy8 =>
        intro w' hSw
        go_simp
        try with_reducible rfl
      try simp only [Act.put, List.getElem_toArray, List.getElem_cons_succ, List.getElem_cons_zero, List.setIfInBounds_toArray, List.set_cons_zero, List.set_cons_succ]
      refine wpAnyH_take (i := 9) (oi := _) (v := ?v9) rfl (by kernel_rfl) (by kernel_rfl) (by kernel_rfl) (fun _ _ _ h => h) (Or.inl ⟨by rfl, ?hy9⟩) (by assumption) ?rest9
      case hy9 =>
        intro w' hSw
        go_simp
        try with_reducible rfl
      try simp only [Act.put, List.getElem_toArray, List.getElem_cons_succ, List.getElem_cons_zero, List.setIfInBounds_toArray, List.set_cons_zero, List.set_cons_succ]
      refine wpAnyH_take (i := 10) (oi := _) (v := ?v10) rfl (by kernel_rfl) (by kernel_rfl) (by kernel_rfl) (fun _ _ _ h => h) (Or.inl ⟨by rfl, ?hy10⟩) (by assumption) ?rest10
      case hy10 =>
        intro w' hSw
        go_simp
        try with_reducible rfl
      try simp only [Act.put, List.getElem_toArray, List.getElem_cons_succ, List.getElem_cons_zero, List.setIfInBounds_toArray, List.set_cons_zero, List.set_cons_succ]
      refine' wpAnyH_take (i := 5) (oi := _) (v := _) rfl (by kernel_rfl) (by kernel_rfl) (by kernel_rfl) (fun _ _ _ h => h) (yieldsIf_load_mid (by rfl) _ _ rfl _ _ rfl _ _ ?hS5 Tryd.underlying81 rfl HIX.out) (by assumption) ?rest5
      case hS5 =>
        intro w' hSw
        exact hSw.1
      try simp only [Act.put, List.getElem_toArray, List.getElem_cons_succ, List.getElem_cons_zero, List.setIfInBounds_toArray, List.set_cons_zero, List.set_cons_succ]
      refine' wpAnyH_take (i := 11) (oi := _) (v := _) rfl (by kernel_rfl) (by kernel_rfl) (by kernel_rfl) (fun _ _ _ h => h) (yieldsIf_load_mid (by rfl) _ _ rfl _ _ rfl _ _ ?hS11 Tryd.underlying81 rfl HIY.out) (by assumption) ?rest11
      case hS11 =>
        intro w' hSw
        exact hSw.2
      try simp only [Act.put, List.getElem_toArray, List.getElem_cons_succ, List.getElem_cons_zero, List.setIfInBounds_toArray, List.set_cons_zero, List.set_cons_succ]
      refine wpAnyH_ready (rs := [6]) (by kernel_rfl) (by simp) (AllReadyH.cons (o := _) rfl (fun K hK => ?_) AllReadyH.nil)
      go_simp
      with_reducible refine (changePath_any x _).mono ?_
      rintro e w1 ⟨rfl, hb1⟩
      go_wp2_with fail
      refine hK.out _ _ (HALL.out _ (hbd.trans (hb1.mono hbd.size))) (fun hHeld => ?_)
      clear hK K
      try simp only [Act.put, List.getElem_toArray, List.getElem_cons_succ, List.getElem_cons_zero, List.setIfInBounds_toArray, List.set_cons_zero, List.set_cons_succ]
      refine wpAnyH_ready (rs := [12]) (by kernel_rfl) (by simp) (AllReadyH.cons (o := _) rfl (fun K hK => ?_) AllReadyH.nil)
      go_simp
      with_reducible refine (changePath_any y _).mono ?_
      rintro e w2 ⟨rfl, hb2⟩
      go_wp2_with fail
      refine hK.out _ _ (HALL.out _ (hbd.trans ((hb1.trans (hb2.mono hb1.size)).mono hbd.size))) (fun hHeld => ?_)
      clear hK K
      try simp only [Act.put, List.getElem_toArray, List.getElem_cons_succ, List.getElem_cons_zero, List.setIfInBounds_toArray, List.set_cons_zero, List.set_cons_succ]
      refine wpAnyH_take (i := 13) (oi := _) (v := ?v13) rfl (by kernel_rfl) (by kernel_rfl) (by kernel_rfl) (fun _ _ _ h => h) (Or.inl ⟨by rfl, ?hy13⟩) (by assumption) ?rest13
      case hy13 =>
        intro w' hSw
        go_simp
        try with_reducible rfl
      try simp only [Act.put, List.getElem_toArray, List.getElem_cons_succ, List.getElem_cons_zero, List.setIfInBounds_toArray, List.set_cons_zero, List.set_cons_succ]
      refine wpAnyH_done (by kernel_rfl) ?_ _
      have HB2 := Lib.hid (hbd.trans ((hb1.trans (hb2.mono hb1.size)).mono hbd.size))
      clear hb1 hb2 hbd hHeld hc
      have HM : Hid (upto Cg.p l (k + 1) = c) := by show _ = _; rw [HT.out, HA.out, HC.out]; rfl
      cases c
      · have HZ : Hid (ascB Cg.p l = false) := upto_false HM.out (by rw [HL.out.len]; omega)
        go_wp2_with fail
        go_ret
        exact ⟨ret_boolP HZ.out.symm, HB2.out⟩
      · go_wp2_with fail
        go_roundw
        case rel => exact ⟨k + 1, by omega, by go_num, HM.out, HB2.out⟩
        case measure => simp [intOf]; omega
    · have hd : decide ((k : Int) + 1 < (n : Int)) = false := by simp; omega
      have HZ : Hid (ascB Cg.p l = true) := by
        show upto Cg.p l (l.length - 1) = true
        have h1 := HA.out
        unfold upto at h1 ⊢
        rw [List.all_eq_true] at h1 ⊢
        intro i hi
        exact h1 i (by simp at hi ⊢; have := HL.out.len; omega)
      go_wp2_with fail
      go_ret
      exact ⟨ret_boolP HZ.out.symm, hbe.out⟩
/-- whether a list is a snapshot, a list of changes -/
def vldE (l : List En) : Bool := decide (l.length ≤ 64) && !l.any badE && ascB En.p l
def vldC (l : List Cg) : Bool := decide (l.length ≤ 128) && !l.any badC && ascB Cg.p l
set_option maxHeartbeats 400000 in
theorem Valid_any (sp : Option Addr) (n cap : Nat) (l : List En) (w : World) (hl : EnsIn w w.heap.size sp n cap l) (hn : n ≤ 1000000) :
    Calls Tryd.prog 17 #[.slice sp n cap] w fun e w' => e = .returned (.bool (vldE l)) ∧ Below w.heap.size w w' := by
  have HL := Lib.hid hl
  clear hl
  by_cases h64 : n ≤ 64
  · have hd : decide ((n : Int) ≤ 64) = true := by simp; omega
    have HV : Hid (vldE l = (!l.any badE && ascB En.p l)) := by show _ = _; unfold vldE; rw [decide_eq_true (by rw [HL.out.len]; exact h64)]; rfl
    obtain ⟨c, hc⟩ : ∃ c, l.any badE = c := ⟨_, rfl⟩
    have hF := fun w' (h : EnsIn w' w'.heap.size sp n cap l) => containsE_any sp n cap l w' h hn
    rw [hc] at hF
    have HC := Lib.hid hF; have HQ := Lib.hid hc
    clear hF hc h64
    cases c
    · go_enter Tryd.func17, Tryd.ntmps17
      go_wp2_with fail
      refine (HC.out _ HL.out).mono ?_
      rintro e w1 ⟨rfl, hb1⟩
      have HB1 := Lib.hid hb1; clear hb1
      go_wp2_with fail
      refine (ascendE_any sp n cap l _ (HL.out.below (HB1.out) (Nat.le_refl _) |>.below (Below.refl w1.heap.size w1) HB1.out.size) hn).mono ?_
      rintro e w2 ⟨rfl, hb2⟩
      have HB2 := Lib.hid hb2; clear hb2
      go_wp2_with fail
      go_ret
      exact ⟨ret_boolP (by rw [HV.out, HQ.out]; rfl), HB1.out.trans (HB2.out.mono HB1.out.size)⟩
    · go_enter Tryd.func17, Tryd.ntmps17
      go_wp2_with fail
      refine (HC.out _ HL.out).mono ?_
      rintro e w1 ⟨rfl, hb1⟩
      have HB1 := Lib.hid hb1; clear hb1
      go_wp2_with fail
      go_ret
      exact ⟨ret_boolP (by rw [HV.out, HQ.out]; rfl), HB1.out⟩
  · have hd : decide ((n : Int) ≤ 64) = false := by simp; omega
    have HV : Hid (vldE l = false) := by show _ = _; unfold vldE; rw [decide_eq_false (by rw [HL.out.len]; exact h64)]; rfl
    go_enter Tryd.func17, Tryd.ntmps17
    go_wp2_with fail
    go_ret
    exact ⟨ret_boolP HV.out.symm, Below.refl _ _⟩
set_option maxHeartbeats 400000 in
theorem validChanges_any (sp : Option Addr) (n cap : Nat) (l : List Cg) (w : World) (hl : CgsIn w w.heap.size sp n cap l) (hn : n ≤ 1000000) :
    Calls Tryd.prog 65 #[.slice sp n cap] w fun e w' => e = .returned (.bool (vldC l)) ∧ Below w.heap.size w w' := by
  have HL := Lib.hid hl
  clear hl
  by_cases h64 : n ≤ 128
  · have hd : decide ((n : Int) ≤ 128) = true := by simp; omega
    have HV : Hid (vldC l = (!l.any badC && ascB Cg.p l)) := by show _ = _; unfold vldC; rw [decide_eq_true (by rw [HL.out.len]; exact h64)]; rfl
    obtain ⟨c, hc⟩ : ∃ c, l.any badC = c := ⟨_, rfl⟩
    have hF := fun w' (h : CgsIn w' w'.heap.size sp n cap l) => containsU_any sp n cap l w' h hn
    rw [hc] at hF
    have HC := Lib.hid hF; have HQ := Lib.hid hc
    clear hF hc h64
    cases c
    · go_enter Tryd.func65, Tryd.ntmps65
      go_wp2_with fail
      refine (HC.out _ HL.out).mono ?_
      rintro e w1 ⟨rfl, hb1⟩
      have HB1 := Lib.hid hb1; clear hb1
      go_wp2_with fail
      refine (ascendC_any sp n cap l _ (HL.out.below (HB1.out) (Nat.le_refl _) |>.below (Below.refl w1.heap.size w1) HB1.out.size) hn).mono ?_
      rintro e w2 ⟨rfl, hb2⟩
      have HB2 := Lib.hid hb2; clear hb2
      go_wp2_with fail
      go_ret
      exact ⟨ret_boolP (by rw [HV.out, HQ.out]; rfl), HB1.out.trans (HB2.out.mono HB1.out.size)⟩
    · go_enter Tryd.func65, Tryd.ntmps65
      go_wp2_with fail
      refine (HC.out _ HL.out).mono ?_
      rintro e w1 ⟨rfl, hb1⟩
      have HB1 := Lib.hid hb1; clear hb1
      go_wp2_with fail
      go_ret
      exact ⟨ret_boolP (by rw [HV.out, HQ.out]; rfl), HB1.out⟩
  · have hd : decide ((n : Int) ≤ 128) = false := by simp; omega
    have HV : Hid (vldC l = false) := by show _ = _; unfold vldC; rw [decide_eq_false (by rw [HL.out.len]; exact h64)]; rfl
    go_enter Tryd.func65, Tryd.ntmps65
    go_wp2_with fail
    go_ret
    exact ⟨ret_boolP HV.out.symm, Below.refl _ _⟩
end Go.Proofs.YtkookkhlgllneaaDoor
