/-
  The walks of the reference's Same and Has at lists of digests (conditions: digests of 32 bytes, at most 1000000 elements).
-/
import Derived.Test.YtdjknefbaclleaaGreatDoorGg
import Derived.Deep.RegionHeld3
import Derived.Deep.RegionWith
import Derived.IntWalk
import Derived.Laws.Cover1
import Derived.Maps.Own
import Derived.Maps.OwnSet
import Derived.Maps.Views
import Derived.DeepKeys4
import Derived.Test.YtdjknefbaclleaaGreatDoorGe
namespace Go.Proofs.YtdjknefbaclleaaGreatDoor
open Go.RowKit

theorem digs_at {w : World} {B : Nat} {sp : Option Addr} {n cap : Nat} {l : List (List Int)} (h : DigsIn w B sp n cap l) {k : Nat} (hk : k < n) : ∃ (x : List Int) (b off : Nat), l[k]? = some x ∧ D32 x ∧ sp = some ⟨b, off, none⟩ ∧ b < B ∧ n ≤ cap ∧ w.rangeAt b (off + k * 32) (x.map (Value.int .u8)) := by
  obtain ⟨b, off, e, hb, hc, hr⟩ := h.cells (by omega)
  have hkl : k < l.length := by rw [h.len]; exact hk
  have hg : l.getD k [] = l[k] := by rw [List.getD_eq_getElem?_getD, List.getElem?_eq_getElem hkl]; rfl
  have hx := h.digs l[k] (List.getElem_mem hkl)
  exact ⟨l[k], b, off, List.getElem?_eq_getElem hkl, ⟨hx.1, hx.2⟩, e, hb, hc, by have := hr k hk; rwa [hg] at this⟩
theorem sameD_succ {a b : List (List Int)} {k : Nat} {x y : List Int} (hx : a[k]? = some x) (hy : b[k]? = some y) (h : a.take k = b.take k) : a.take (k + 1) = b.take (k + 1) ↔ x = y := by
  rw [List.take_add_one, List.take_add_one, hx, hy, h]; simp
set_option maxRecDepth 100000 in
set_option maxHeartbeats 1000000 in
theorem sameD_any (sp1 : Option Addr) (n1 c1 : Nat) (a : List (List Int)) (sp2 : Option Addr) (n2 c2 : Nat) (b : List (List Int)) (w : World) (ha : DigsIn w w.heap.size sp1 n1 c1 a) (hb : DigsIn w w.heap.size sp2 n2 c2 b) (hn : n1 ≤ 100000000) (hab : a = b) :
    Calls Tryz.prog 10 #[.slice sp1 n1 c1, .slice sp2 n2 c2] w fun e w' => e = .returned (.bool true) ∧ Below w.heap.size w w' := by
  have HA := Lib.hid ha; have HBb := Lib.hid hb; clear ha hb
  obtain rfl : n1 = n2 := by rw [← HA.out.len, ← HBb.out.len, hab]
  have hd : (!((n1 : Int) == (n1 : Int))) = false := by simp
  have HAB := Lib.hid hab; clear hab
  go_enter Tryz.func10, Tryz.ntmps10
  go_wp2_with fail
  go_loopw [5] (fun i wr => ∃ k : Nat, k ≤ n1 ∧ i = .int .i64 k ∧ Hid (Below w.heap.size w wr)) (fun i _ => n1 - (intOf i).toNat)
  case atStart => exact ⟨0, Nat.zero_le _, rfl, Below.refl _ _⟩
  case round =>
    obtain ⟨k, hk, rfl, hbe⟩ := hrel
    by_cases hlt : k < n1
    · have hd : decide ((k : Int) < (n1 : Int)) = true := by simp; omega
      obtain ⟨x, b1, o1, hx, hxo, rfl, hb1, hcap1, hr1⟩ := digs_at HA.out hlt
      obtain ⟨y, b2, o2, hy, hyo, rfl, hb2, hcap2, hr2⟩ := digs_at HBb.out hlt
      have hxy : x = y := by rw [HAB.out] at hx; exact Option.some.inj (hx.symm.trans hy)
      have HX := Lib.hid (range_belowG hr1 hbe.out.drew hb1)
      have HY := Lib.hid (range_belowG hr2 hbe.out.drew hb2)
      have HIX := Lib.hid (info_d hxo); have HIY := Lib.hid (info_d hyo)
      have he := neqD x y hxo.1 hyo.1
      rw [decide_eq_true hxy] at he
      have p1 : (0 : Int) ≤ (k : Int) := by omega
      have p2 : (k : Int) < (n1 : Int) := by omega
      have q1 : IntKind.i64.wrap (k : Int) = (k : Int) := IntWalk.i64_in _ (by omega)
      have HB1 := Lib.hid hbe.out.drew
      clear hx hy hr1 hr2 hxo hyo hxy
      go_wp2_with fail
      refine wp_region_held_drew (S := fun w' => w'.rangeAt b1 (o1 + k * 32) (x.map (Value.int .u8)) ∧ w'.rangeAt b2 (o2 + k * 32) (y.map (Value.int .u8))) (by kernel_rfl) ⟨HX.out, HY.out⟩ (fun hHeld => ?_)
      refine wpAnyH_take (i := 0) (oi := _) (v := ?v0n1) rfl (by kernel_rfl) (by kernel_rfl) (by kernel_rfl) (fun _ _ _ h => h) (Or.inl ⟨by rfl, ?hy0n1⟩) (by assumption) ?rest0n1
      case hy0n1 =>
        intro w' hSw
        go_simp
        try with_reducible rfl
      try simp only [Act.put, List.getElem_toArray, List.getElem_cons_succ, List.getElem_cons_zero, List.setIfInBounds_toArray, List.set_cons_zero, List.set_cons_succ]
      refine wpAnyH_take (i := 1) (oi := _) (v := ?v1n2) rfl (by kernel_rfl) (by kernel_rfl) (by kernel_rfl) (fun _ _ _ h => h) (Or.inl ⟨by rfl, ?hy1n2⟩) (by assumption) ?rest1n2
      case hy1n2 =>
        intro w' hSw
        go_simp
        try with_reducible rfl
      try simp only [Act.put, List.getElem_toArray, List.getElem_cons_succ, List.getElem_cons_zero, List.setIfInBounds_toArray, List.set_cons_zero, List.set_cons_succ]
      refine wpAnyH_take (i := 2) (oi := _) (v := ?v2n3) rfl (by kernel_rfl) (by kernel_rfl) (by kernel_rfl) (fun _ _ _ h => h) (Or.inl ⟨by rfl, ?hy2n3⟩) (by assumption) ?rest2n3
      case hy2n3 =>
        intro w' hSw
        go_simp
        try with_reducible rfl
      try simp only [Act.put, List.getElem_toArray, List.getElem_cons_succ, List.getElem_cons_zero, List.setIfInBounds_toArray, List.set_cons_zero, List.set_cons_succ]
      refine' wpAnyH_take (i := 3) (oi := _) (v := _) rfl (by kernel_rfl) (by kernel_rfl) (by kernel_rfl) (fun _ _ _ h => h) (yieldsIf_load_mid (by rfl) _ _ rfl _ _ rfl _ _ ?hS3n4 Tryz.underlying29 rfl HIX.out) (by assumption) ?rest3n4
      case hS3n4 =>
        intro w' hSw
        exact hSw.1
      try simp only [Act.put, List.getElem_toArray, List.getElem_cons_succ, List.getElem_cons_zero, List.setIfInBounds_toArray, List.set_cons_zero, List.set_cons_succ]
      refine wpAnyH_take (i := 4) (oi := _) (v := ?v4n5) rfl (by kernel_rfl) (by kernel_rfl) (by kernel_rfl) (fun _ _ _ h => h) (Or.inl ⟨by rfl, ?hy4n5⟩) (by assumption) ?rest4n5
      case hy4n5 =>
        intro w' hSw
        go_simp
        try with_reducible rfl
      try simp only [Act.put, List.getElem_toArray, List.getElem_cons_succ, List.getElem_cons_zero, List.setIfInBounds_toArray, List.set_cons_zero, List.set_cons_succ]
      refine wpAnyH_take (i := 5) (oi := _) (v := ?v5n6) rfl (by kernel_rfl) (by kernel_rfl) (by kernel_rfl) (fun _ _ _ h => h) (Or.inl ⟨by rfl, ?hy5n6⟩) (by assumption) ?rest5n6
      case hy5n6 =>
        intro w' hSw
        go_simp
        try with_reducible rfl
      try simp only [Act.put, List.getElem_toArray, List.getElem_cons_succ, List.getElem_cons_zero, List.setIfInBounds_toArray, List.set_cons_zero, List.set_cons_succ]
      refine wpAnyH_take (i := 6) (oi := _) (v := ?v6n7) rfl (by kernel_rfl) (by kernel_rfl) (by kernel_rfl) (fun _ _ _ h => h) (Or.inl ⟨by rfl, ?hy6n7⟩) (by assumption) ?rest6n7
      case hy6n7 =>
        intro w' hSw
        go_simp
        try with_reducible rfl
      try simp only [Act.put, List.getElem_toArray, List.getElem_cons_succ, List.getElem_cons_zero, List.setIfInBounds_toArray, List.set_cons_zero, List.set_cons_succ]
      refine' wpAnyH_take (i := 7) (oi := _) (v := _) rfl (by kernel_rfl) (by kernel_rfl) (by kernel_rfl) (fun _ _ _ h => h) (yieldsIf_load_mid (by rfl) _ _ rfl _ _ rfl _ _ ?hS7n8 Tryz.underlying29 rfl HIY.out) (by assumption) ?rest7n8
      case hS7n8 =>
        intro w' hSw
        exact hSw.2
      try simp only [Act.put, List.getElem_toArray, List.getElem_cons_succ, List.getElem_cons_zero, List.setIfInBounds_toArray, List.set_cons_zero, List.set_cons_succ]
      refine wpAnyH_take (i := 8) (oi := _) (v := ?v8n9) rfl (by kernel_rfl) (by kernel_rfl) (by kernel_rfl) (fun _ _ _ h => h) (Or.inl ⟨by rfl, ?hy8n9⟩) (by assumption) ?rest8n9
      case hy8n9 =>
        intro w' hSw
        go_simp
        try with_reducible rfl
      try simp only [Act.put, List.getElem_toArray, List.getElem_cons_succ, List.getElem_cons_zero, List.setIfInBounds_toArray, List.set_cons_zero, List.set_cons_succ]
      refine wpAnyH_done (by kernel_rfl) ?_ _
      clear hHeld
      go_wp2_with fail
      go_roundw
      case rel => exact ⟨k + 1, by omega, by go_num, HB1⟩
      case measure => simp [intOf]; omega
    · obtain rfl : k = n1 := by omega
      have hd : decide ((k : Int) < (k : Int)) = false := by simp
      go_wp2_with fail
      go_ret
      exact ⟨rfl, hbe.out⟩
set_option maxRecDepth 100000 in
set_option maxHeartbeats 1000000 in
theorem has_any (sp1 : Option Addr) (n1 c1 : Nat) (a : List (List Int)) (d : List Int) (w : World) (ha : DigsIn w w.heap.size sp1 n1 c1 a) (hd : D32 d) (hn : n1 ≤ 1000000) :
    Calls Tryz.prog 19 #[.slice sp1 n1 c1, .agg (d.map (Value.int .u8)).toArray] w fun e w' => e = .returned (.bool (decide (d ∈ a))) ∧ Below w.heap.size w w' := by
  have HA := Lib.hid ha; have HD := Lib.hid hd; clear ha
  have HB := Lib.hid ((Below.refl w.heap.size w).alloc (Nat.le_refl _) (.cells (d.map (Value.int .u8)).toArray 29))
  have hr : (w.alloc (.cells (d.map (Value.int .u8)).toArray 29)).rangeAt w.heap.size 0 (d.map (Value.int .u8)) := range_row (pre := []) (post := []) (heap_alloc_new w _) (by simp) rfl
  have HID := Lib.hid (info_d hd)
  clear hd
  go_enter Tryz.func19, Tryz.ntmps19
  go_wp2_with fail
  generalize hw0 : World.alloc w _ = w0 at HB hr
  have hs0 : w.heap.size < w0.heap.size := by rw [← hw0]; simp
  have HR := Lib.hid hr; clear hr hw0
  go_loopw [5] (fun i wr => ∃ k : Nat, k ≤ n1 ∧ i = .int .i64 k ∧ Hid (d ∉ a.take k) ∧ Hid (Below w0.heap.size w0 wr)) (fun i _ => n1 - (intOf i).toNat)
  case atStart => exact ⟨0, Nat.zero_le _, rfl, by show d ∉ a.take 0; simp, Below.refl _ _⟩
  case round =>
    obtain ⟨k, hk, rfl, HT, hbe⟩ := hrel
    have HBW := Lib.hid (HB.out.trans (hbe.out.mono HB.out.size))
    by_cases hlt : k < n1
    · have hd : decide ((k : Int) < (n1 : Int)) = true := by simp; omega
      obtain ⟨x, b1, o1, hx, hxo, rfl, hb1, hcap1, hr1⟩ := digs_at HA.out hlt
      have HX := Lib.hid (range_belowG hr1 HBW.out.drew hb1)
      have HY := Lib.hid (range_belowG HR.out hbe.out.drew hs0)
      have HIX := Lib.hid (info_d hxo)
      have he := eqlD x d hxo.1 HD.out.1
      obtain ⟨c, hc⟩ : ∃ c, decide (x = d) = c := ⟨_, rfl⟩
      rw [hc] at he
      have HC := Lib.hid hc; have HXX := Lib.hid hx
      have p1 : (0 : Int) ≤ (k : Int) := by omega
      have p2 : (k : Int) < (n1 : Int) := by omega
      have q1 : IntKind.i64.wrap (k : Int) = (k : Int) := IntWalk.i64_in _ (by omega)
      have HB1 := Lib.hid hbe.out.drew; have HB2 := Lib.hid HBW.out.drew
      clear hx hr1 hxo hc
      go_wp2_with fail
      refine wp_region_held_drew (S := fun w' => w'.rangeAt b1 (o1 + k * 32) (x.map (Value.int .u8)) ∧ w'.rangeAt w.heap.size 0 (d.map (Value.int .u8))) (by kernel_rfl) ⟨HX.out, HY.out⟩ (fun hHeld => ?_)
      refine wpAnyH_take (i := 0) (oi := _) (v := ?v0n10) rfl (by kernel_rfl) (by kernel_rfl) (by kernel_rfl) (fun _ _ _ h => h) (Or.inl ⟨by rfl, ?hy0n10⟩) (by assumption) ?rest0n10
      case hy0n10 =>
        intro w' hSw
        go_simp
        try with_reducible rfl
      try simp only [Act.put, List.getElem_toArray, List.getElem_cons_succ, List.getElem_cons_zero, List.setIfInBounds_toArray, List.set_cons_zero, List.set_cons_succ]
      refine wpAnyH_take (i := 1) (oi := _) (v := ?v1n11) rfl (by kernel_rfl) (by kernel_rfl) (by kernel_rfl) (fun _ _ _ h => h) (Or.inl ⟨by rfl, ?hy1n11⟩) (by assumption) ?rest1n11
      case hy1n11 =>
        intro w' hSw
        go_simp
        try with_reducible rfl
      try simp only [Act.put, List.getElem_toArray, List.getElem_cons_succ, List.getElem_cons_zero, List.setIfInBounds_toArray, List.set_cons_zero, List.set_cons_succ]
      refine wpAnyH_take (i := 2) (oi := _) (v := ?v2n12) rfl (by kernel_rfl) (by kernel_rfl) (by kernel_rfl) (fun _ _ _ h => h) (Or.inl ⟨by rfl, ?hy2n12⟩) (by assumption) ?rest2n12
      case hy2n12 =>
        intro w' hSw
        go_simp
        try with_reducible rfl
      try simp only [Act.put, List.getElem_toArray, List.getElem_cons_succ, List.getElem_cons_zero, List.setIfInBounds_toArray, List.set_cons_zero, List.set_cons_succ]
      refine' wpAnyH_take (i := 3) (oi := _) (v := _) rfl (by kernel_rfl) (by kernel_rfl) (by kernel_rfl) (fun _ _ _ h => h) (yieldsIf_load_mid (by rfl) _ _ rfl _ _ rfl _ _ ?hS3n13 Tryz.underlying29 rfl HIX.out) (by assumption) ?rest3n13
      case hS3n13 =>
        intro w' hSw
        exact hSw.1
      try simp only [Act.put, List.getElem_toArray, List.getElem_cons_succ, List.getElem_cons_zero, List.setIfInBounds_toArray, List.set_cons_zero, List.set_cons_succ]
      refine' wpAnyH_take (i := 4) (oi := _) (v := _) rfl (by kernel_rfl) (by kernel_rfl) (by kernel_rfl) (fun _ _ _ h => h) (yieldsIf_load_mid (by rfl) _ _ rfl _ _ rfl _ _ ?hS4n14 Tryz.underlying29 rfl HID.out) (by assumption) ?rest4n14
      case hS4n14 =>
        intro w' hSw
        exact hSw.2
      try simp only [Act.put, List.getElem_toArray, List.getElem_cons_succ, List.getElem_cons_zero, List.setIfInBounds_toArray, List.set_cons_zero, List.set_cons_succ]
      refine wpAnyH_take (i := 5) (oi := _) (v := ?v5n15) rfl (by kernel_rfl) (by kernel_rfl) (by kernel_rfl) (fun _ _ _ h => h) (Or.inl ⟨by rfl, ?hy5n15⟩) (by assumption) ?rest5n15
      case hy5n15 =>
        intro w' hSw
        go_simp
        try with_reducible rfl
      try simp only [Act.put, List.getElem_toArray, List.getElem_cons_succ, List.getElem_cons_zero, List.setIfInBounds_toArray, List.set_cons_zero, List.set_cons_succ]
      refine wpAnyH_done (by kernel_rfl) ?_ _
      clear hHeld
      cases c
      · go_wp2_with fail
        go_roundw
        case rel =>
          refine ⟨k + 1, by omega, by go_num, ?_, HB1⟩
          show d ∉ a.take (k + 1)
          rw [List.take_add_one, HXX.out]
          intro hm
          rcases List.mem_append.1 hm with hm | hm
          · exact HT.out hm
          · exact of_decide_eq_false HC.out (Eq.symm (by simpa using hm))
        case measure => simp [intOf]; omega
      · have HM : Hid (decide (d ∈ a) = true) := by
          show _ = _
          rw [← of_decide_eq_true HC.out]
          exact decide_eq_true (List.mem_of_getElem? HXX.out)
        go_wp2_with fail
        go_ret
        exact ⟨ret_boolG HM.out.symm, HB2.out⟩
    · obtain rfl : k = n1 := by omega
      have hd : decide ((k : Int) < (k : Int)) = false := by simp
      have HM : Hid (decide (d ∈ a) = false) := by
        show _ = _
        have h1 := HT.out
        rw [List.take_of_length_le (by rw [HA.out.len]; exact Nat.le_refl _)] at h1
        exact decide_eq_false h1
      go_wp2_with fail
      go_ret
      exact ⟨ret_boolG HM.out.symm, HBW.out⟩
end Go.Proofs.YtdjknefbaclleaaGreatDoor

namespace Go.Proofs.YtdjknefbaclleaaGreatDoor
open Go.RowKit

theorem laidOutK : laidOutB Tryz.prog = true := by kernel_rfl
theorem rowK : (29 : TypeId) < Tryz.prog.types.size := of_decide_eq_true (by kernel_rfl)
theorem wideK : (match Tryz.prog.underlying 29 with | some (.array _ _) | some (.struct _) => true | _ => false) = true := by rw [Tryz.underlying29]
set_option maxRecDepth 100000 in
theorem lawK : WideMaps.KeyLaw Tryz.prog 29 := deep_law_laid laidOutK (m := 2) (by omega) rowK (by kernel_rfl) wideK
theorem keyedK : Maps.Keyed Tryz.prog 29 := Maps.Keyed.of_law lawK
theorem mapM_someG {α β : Type} (f : α → Option β) (g : α → β) : ∀ l : List α, (∀ x ∈ l, f x = some (g x)) → l.mapM f = some (l.map g)
  | [], _ => rfl
  | x :: l, h => by
    rw [List.mapM_cons, h x (by simp), mapM_someG f g l (fun y hy => h y (by simp [hy]))]; rfl
theorem dg_inj {a b : List Int} (h : Value.agg (a.map (Value.int .u8)).toArray = .agg (b.map (Value.int .u8)).toArray) : a = b := by
  injection h with h
  have h2 : a.map (Value.int .u8) = b.map (Value.int .u8) := by simpa using h
  exact List.map_inj_right (fun x y e => by injection e) |>.1 h2
theorem keyD (d : List Int) (h : D32 d) : ∃ kl, keyOf Tryz.prog 29 (.agg (d.map (Value.int .u8)).toArray) = some kl := by
  have c1 : Tryz.prog.cellsOf 5 = 1 := by kernel_rfl
  have c32 : Tryz.prog.cellsOf 29 = 32 := by kernel_rfl
  have hk : Tryz.prog.keyType 29 = true := by kernel_rfl
  have hf : (Value.agg (d.map (Value.int .u8)).toArray).formed Tryz.prog 29 = true := by simp [Value.formed, Tryz.underlying29, c32, h.1]
  obtain ⟨m, hm⟩ : ∃ m, Tryz.prog.types.size = m + 1 := Nat.exists_eq_succ_of_ne_zero (fun h0 => by have h1 := rowK; rw [h0] at h1; exact Nat.not_lt_zero _ h1)
  have hl : Tryz.prog.keyLits (Tryz.prog.types.size + 1) 29 (d.map (Value.int .u8)) = some ((List.range 32).map (fun i => [Lit.int .u8 (d.getD i 0)])).flatten := by
    rw [hm]
    unfold Program.keyLits
    simp only [Tryz.underlying29, c32, c1]
    rw [if_pos (by rw [List.length_map, h.1])]
    rw [mapM_someG _ (fun i => [Lit.int .u8 (d.getD i 0)])]
    · rfl
    · intro i hi
      have hi' : i < d.length := by rw [h.1]; simpa using hi
      have e : ((d.map (Value.int .u8)).drop (i * 1)).take 1 = [Value.int .u8 (d.getD i 0)] := by
        rw [Nat.mul_one, List.drop_eq_getElem_cons (by simpa using hi'), List.take_succ_cons, List.take_zero, List.getElem_map, List.getD_eq_getElem?_getD, List.getElem?_eq_getElem hi']; rfl
      rw [e]
      have hz := h.2 (d.getD i 0) (by rw [List.getD_eq_getElem?_getD, List.getElem?_eq_getElem hi']; exact List.getElem_mem hi')
      obtain ⟨z, hzz⟩ : ∃ z, d.getD i 0 = z := ⟨_, rfl⟩
      rw [hzz] at hz ⊢
      have hw : (Lit.int .u8 z).wf = true := by
        have e1 : IntKind.u8.min = 0 := by decide
        have e2 : IntKind.u8.max = 255 := by decide
        show (decide (IntKind.u8.min ≤ z) && decide (z ≤ IntKind.u8.max)) = true
        rw [e1, e2, decide_eq_true hz.1, decide_eq_true (by omega)]; rfl
      unfold Program.keyLits
      simp [Tryz.underlying5, hw]
  unfold keyOf
  simp only [Tryz.underlying29, hk, hf, Bool.and_self, if_true]
  exact ⟨_, by rw [show (Value.agg (d.map (Value.int .u8)).toArray).cells.toList = d.map (Value.int .u8) from rfl, hl]; rfl⟩
/-- a map that the call made: the digests that f holds are in it -/
def SeenIn (w : World) (b n : Nat) (f : List Int → Bool) : Prop := ∃ D : DataW Unit, w.ownsMap Tryz.prog 29 (plainElem Tryz.prog 4) b n D ∧
  ∀ d, D32 d → ∀ kl, keyOf Tryz.prog 29 (.agg (d.map (Value.int .u8)).toArray) = some kl → D.atKey kl (.lit (.bool false)) = .lit (.bool (f d))
theorem SeenIn.made (w : World) : SeenIn (w.alloc (.map #[] 0)) w.heap.size 0 (fun _ => false) := ⟨.map [], World.ownsMap_made w _ _ _, fun _ _ _ _ => rfl⟩
theorem SeenIn.lt {w : World} {b n : Nat} {f : List Int → Bool} (h : SeenIn w b n f) : b < w.heap.size := by
  obtain ⟨D, h, _⟩ := h
  exact h.lt
theorem SeenIn.grown {w w' : World} {b n : Nat} {f : List Int → Bool} {row : Option Nat} (h : SeenIn w b n f) (hg : w.grownBy w' row) (hne : some b ≠ row) : SeenIn w' b n f := by
  obtain ⟨D, h, hf⟩ := h
  exact ⟨D, h.kept hg hne, hf⟩
theorem SeenIn.below {w w' : World} {b n : Nat} {f : List Int → Bool} (h : SeenIn w b n f) (hb : Below w.heap.size w w') : SeenIn w' b n f :=
  h.grown (row := none) ⟨hb.os, hb.tape, hb.output, hb.size, fun k hk _ => hb.block k hk⟩ (by simp)
set_option maxRecDepth 100000 in
theorem plain_bool_inv {v : Value} {x : Bool} {ps : List MemPlace} (h : plainElem (H := Unit) Tryz.prog 4 v = some (.lit (.bool x), ps)) : v = .bool x := by
  unfold plainElem at h
  rw [Tryz.underlying4] at h
  cases v <;> simp at h
  rw [h.1]
set_option maxRecDepth 100000 in
theorem SeenIn.look {w : World} {b n : Nat} {f : List Int → Bool} (h : SeenIn w b n f) (d : List Int) (hd : D32 d) : (Instr.lookup 62 (.map (some b)) (.agg (d.map (Value.int .u8)).toArray) false).run Tryz.prog w = .ok (.bool (f d)) w := by
  obtain ⟨D, h, hf⟩ := h
  obtain ⟨kl, hk⟩ := keyD d hd
  obtain ⟨v, ps, hrun, hv⟩ := h.lookup keyedK Tryz.underlying62 (z := .bool false) (by kernel_rfl) (zd := .lit (.bool false)) (zp := []) (plainElem_bool Tryz.underlying4 false) hk
  rw [hf d hd kl hk] at hv
  rw [hrun, plain_bool_inv hv]
theorem SeenIn.put_of {w w' : World} {b n : Nat} {f : List Int → Bool} {D : DataW Unit} {d : List Int} {kl : Lit} (h0 : w.ownsMap Tryz.prog 29 (plainElem Tryz.prog 4) b n D) (h : w'.ownsMap Tryz.prog 29 (plainElem Tryz.prog 4) b (n + 1) (D.put kl (.lit (.bool true))))
    (hf : ∀ d, D32 d → ∀ kl, keyOf Tryz.prog 29 (.agg (d.map (Value.int .u8)).toArray) = some kl → D.atKey kl (.lit (.bool false)) = .lit (.bool (f d))) (hk : keyOf Tryz.prog 29 (.agg (d.map (Value.int .u8)).toArray) = some kl) :
    SeenIn w' b (n + 1) (fun x => decide (x = d) || f x) := by
  refine ⟨_, h, fun x hx kx hkx => ?_⟩
  by_cases e : x = d
  · subst e
    obtain rfl : kx = kl := Option.some.inj (hkx.symm.trans hk)
    rw [Maps.atKey_put_same h0.isMap (keyedK.key hk)]; simp
  · have hne : kx ≠ kl := fun e2 => e (dg_inj (keyedK.inj hkx (e2 ▸ hk)))
    rw [Maps.atKey_put_other hne, hf x hx kx hkx]; simp [e]
/-- seen[d] = true -/
theorem wpList_seen {w : World} {ops : Array Oper} {rest : List Oper} {o : Oper} {a : Act} {Q : Exit → Act → World → Prop} (hgd : o.guard = none) (m x v : Operand) (hop : o.op = Op.mapUpdate 62 m x v) (b n : Nat) (f : List Int → Bool) (hs : SeenIn w b n f) (hn : n < 1000000000000)
    (d : List Int) (hd : D32 d) (hm : a.eval m = .map (some b)) (hx : a.eval x = .agg (d.map (Value.int .u8)).toArray) (hv : a.eval v = .bool true)
    (h : ∀ w', Hid (SeenIn w' b (n + 1) (fun x => decide (x = d) || f x)) → w.grownBy w' (some b) → wpList Tryz.prog ops Q rest (a.put o.dst undef) w') : wpList Tryz.prog ops Q (o :: rest) a w := by
  obtain ⟨D, h0, hf⟩ := hs
  obtain ⟨kl, hk⟩ := keyD d hd
  refine wpList_mapUpdate_own w hgd m x v 62 hop 29 4 keyedK Tryz.underlying62 (plainElem Tryz.prog 4) b n D hm h0 (by unfold maxLen; omega) _ _ kl hx hv hk (.lit (.bool true)) [] (plainElem_bool Tryz.underlying4 true) ?_
  intro w' h1 h2
  exact h w' (SeenIn.put_of h0 h1 hf hk) h2
end Go.Proofs.YtdjknefbaclleaaGreatDoor

namespace Go.Proofs.YtdjknefbaclleaaGreatDoor
open Go.RowKit

/-- one word more -/
def lnkS (out : List (List Int)) (s : ByteArray) : List (List Int) := if ppok s.data.toList = true ∧ ppby s.data.toList ≠ zed ∧ ppby s.data.toList ∉ out then out ++ [ppby s.data.toList] else out
def lnk (ws : List ByteArray) : List (List Int) := ws.foldl lnkS []
theorem lnk_snoc (a : List ByteArray) (s : ByteArray) : lnk (a ++ [s]) = lnkS (lnk a) s := by unfold lnk; rw [List.foldl_append]; rfl
theorem lnk_add {a : List ByteArray} {s : ByteArray} (h1 : ppok s.data.toList = true) (h2 : ppby s.data.toList ≠ zed) (h3 : ppby s.data.toList ∉ lnk a) : lnk (a ++ [s]) = lnk a ++ [ppby s.data.toList] := by
  rw [lnk_snoc]; unfold lnkS; rw [if_pos ⟨h1, h2, h3⟩]
theorem lnk_no {a : List ByteArray} {s : ByteArray} (h1 : ppok s.data.toList = false) : lnk (a ++ [s]) = lnk a := by
  rw [lnk_snoc]; unfold lnkS; rw [if_neg (fun h => by rw [h1] at h; exact absurd h.1 (by decide))]
theorem lnk_zero {a : List ByteArray} {s : ByteArray} (h2 : ppby s.data.toList = zed) : lnk (a ++ [s]) = lnk a := by
  rw [lnk_snoc]; unfold lnkS; rw [if_neg (fun h => h.2.1 h2)]
theorem lnk_has {a : List ByteArray} {s : ByteArray} (h3 : ppby s.data.toList ∈ lnk a) : lnk (a ++ [s]) = lnk a := by
  rw [lnk_snoc]; unfold lnkS; rw [if_neg (fun h => h.2.2 h3)]
theorem lnkS_le (out : List (List Int)) (s : ByteArray) : (lnkS out s).length ≤ out.length + 1 := by
  unfold lnkS; split <;> simp
theorem lnk_foldl_le : ∀ (ws : List ByteArray) (out : List (List Int)), (ws.foldl lnkS out).length ≤ out.length + ws.length
  | [], out => by simp
  | s :: ws, out => by
    rw [List.foldl_cons]
    have h1 := lnk_foldl_le ws (lnkS out s)
    have h2 := lnkS_le out s
    rw [List.length_cons]; omega
theorem lnk_le (ws : List ByteArray) : (lnk ws).length ≤ ws.length := by have := lnk_foldl_le ws []; simpa [lnk] using this
theorem lnk_foldl_mem (P : List Int → Prop) : ∀ (ws : List ByteArray) (out : List (List Int)), (∀ d ∈ out, P d) → (∀ s ∈ ws, ppok s.data.toList = true → P (ppby s.data.toList)) → ∀ d ∈ ws.foldl lnkS out, P d
  | [], out, h, _ => h
  | s :: ws, out, h, hw => by
    rw [List.foldl_cons]
    refine lnk_foldl_mem P ws _ (fun d hd => ?_) (fun t ht => hw t (by simp [ht]))
    unfold lnkS at hd
    split at hd
    · rename_i hc
      rcases List.mem_append.1 hd with hd | hd
      · exact h d hd
      · rw [List.mem_singleton.1 hd]; exact hw s (by simp) hc.1
    · exact h d hd
/-- the first words of a line, those of the lines before it ahead -/
theorem flat_line {α : Type} {ls : List (List α)} {i j : Nat} {l : List α} {x : α} (hl : ls[i]? = some l) (hx : l[j]? = some x) : (ls.take i).flatten ++ l.take (j + 1) = ((ls.take i).flatten ++ l.take j) ++ [x] := by
  rw [List.take_add_one, hx]; simp
theorem flat_next {α : Type} {ls : List (List α)} {i : Nat} {l : List α} (hl : ls[i]? = some l) : (ls.take (i + 1)).flatten = (ls.take i).flatten ++ l.take l.length := by
  rw [List.take_add_one, hl]; simp
end Go.Proofs.YtdjknefbaclleaaGreatDoor
