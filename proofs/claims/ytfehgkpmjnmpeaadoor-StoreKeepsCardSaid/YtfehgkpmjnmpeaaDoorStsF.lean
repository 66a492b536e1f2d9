/-
  Stores: the walk of the reference's Get (lists of at most 1000000 blobs).
-/
import Derived.Test.YtfehgkpmjnmpeaaDoorStsA
namespace Go.Proofs.YtfehgkpmjnmpeaaDoor
open Go.RowKit

/-- what Get answers, without a copy -/
def GetR (l : List Bl) (d : List Int) (e : Ending) : Prop :=
  (e = .returned (.tuple #[.slice none 0 0, .bool false]) ∧ ∀ x ∈ l, x.d ≠ d) ∨ ∃ (k : Nat) (x : Bl), e = .returned (.tuple #[.slice x.sp x.n x.cap, .bool true]) ∧ l[k]? = some x ∧ x.d = d ∧ ∀ y ∈ l.take k, y.d ≠ d
set_option maxRecDepth 100000 in
set_option maxHeartbeats 1000000 in
theorem rget_any (sp : Option Addr) (n cap : Nat) (l : List Bl) (d : List Int) (w : World) (hl : BlsIn w w.heap.size sp n cap l) (hn : n ≤ 1000000) (hd : D32 d) :
    Calls Tryd.prog 20 #[.slice sp n cap, .agg (d.map (Value.int .u8)).toArray] w fun e w' => GetR l d e ∧ Below w.heap.size w w' := by
  have HL := Lib.hid hl; have HD := Lib.hid hd; clear hl
  have HB := Lib.hid ((Below.refl w.heap.size w).alloc (Nat.le_refl _) (.cells (d.map (Value.int .u8)).toArray 32))
  have hr : (w.alloc (.cells (d.map (Value.int .u8)).toArray 32)).rangeAt w.heap.size 0 (d.map (Value.int .u8)) := range_row (pre := []) (post := []) (heap_alloc_new w _) (by simp) rfl
  have HID := Lib.hid (info_d hd)
  clear hd
  go_enter Tryd.func20, Tryd.ntmps20
  go_wp2_with fail
  generalize hw0 : World.alloc w _ = w0 at HB hr
  have hs0 : w.heap.size < w0.heap.size := by rw [← hw0]; simp
  have HR := Lib.hid hr; clear hr hw0
  go_loopw [6] (fun i wr => ∃ k : Nat, k ≤ n ∧ i = .int .i64 k ∧ Hid (∀ y ∈ l.take k, y.d ≠ d) ∧ Hid (Below w0.heap.size w0 wr)) (fun i _ => n - (intOf i).toNat)
  case atStart => exact ⟨0, Nat.zero_le _, rfl, fun y hy => (by simp at hy), Below.refl _ _⟩
  case round =>
    obtain ⟨k, hk, rfl, HT, hbe⟩ := hrel
    have HBW := Lib.hid (HB.out.trans (hbe.out.mono HB.out.size))
    by_cases hlt : k < n
    · have hd : decide ((k : Int) < (n : Int)) = true := by simp; omega
      obtain ⟨b, off, rfl, hbB, hcap, hr1⟩ := HL.out.cells (by omega)
      obtain ⟨x, hx⟩ : ∃ x, l[k]? = some x := ⟨l[k]'(by have := HL.out.len; omega), List.getElem?_eq_getElem _⟩
      have HOX := Lib.hid (HL.out.ok x (List.mem_of_getElem? hx))
      have HXR := Lib.hid (range_belowG (hr1 k x hx) HBW.out.drew hbB)
      have HX := Lib.hid (rngB_d HXR.out)
      have hx4 := rngB_s HXR.out HOX.out
      have HY := Lib.hid (range_belowG HR.out hbe.out.drew hs0)
      have HIX := Lib.hid (info_d HOX.out)
      have he := eqlD x.d d HOX.out.1 HD.out.1
      obtain ⟨c, hc⟩ : ∃ c, decide (x.d = d) = c := ⟨_, rfl⟩
      rw [hc] at he
      have HC := Lib.hid hc; have HXX := Lib.hid hx
      have p1 : (0 : Int) ≤ (k : Int) := by omega
      have p2 : (k : Int) < (n : Int) := by omega
      have q1 : IntKind.i64.wrap (k : Int) = (k : Int) := IntWalk.i64_in _ (by omega)
      have HB1 := Lib.hid hbe.out.drew; have HB2 := Lib.hid HBW.out.drew
      clear hx hr1 hc
      go_wp2_with fail
      refine wp_region_held_drew (S := fun w' => w'.rangeAt b (off + k * 33) (x.d.map (Value.int .u8)) ∧ w'.rangeAt w.heap.size 0 (d.map (Value.int .u8))) (by kernel_rfl) ⟨HX.out, HY.out⟩ (fun hHeld => ?_)
      refine wpAnyH_take (i := 0) (oi := _) (v := ?v0n1) rfl (by kernel_rfl) (by kernel_rfl) (by kernel_rfl) (fun _ _ _ h => h) (Or.inl ⟨by rfl, ?hy0n1⟩) (by assumption) ?rest0n1
      case hy0n1 =>
        intro w' hSw
        go_simp
        try with_reducible rfl
      try simp only [Act.put, List.getElem_toArray, List.getElem_cons_succ, List.getElem_cons_zero, List.setIfInBounds_toArray, List.set_cons_zero, List.set_cons_succ]
      refine wpAnyH_take (i := 1) (oi := _) (v := ?v1n2) rfl (by kernel_rfl) (by kernel_rfl) (by kernel_rfl) (fun _ _ _ h => h) (Or.inl ⟨by rfl, ?hy1n2⟩) (by assumption) ?rest1n2
      case hy1n2 =>
        intro w' hSw
        go_simp
        try with_reducible rfl
      try simp only [Act.put, List.getElem_toArray, List.getElem_cons_succ, List.getElem_cons_zero, List.setIfInBounds_toArray, List.set_cons_zero, List.set_cons_succ]
      refine wpAnyH_take (i := 2) (oi := _) (v := ?v2n3) rfl (by kernel_rfl) (by kernel_rfl) (by kernel_rfl) (fun _ _ _ h => h) (Or.inl ⟨by rfl, ?hy2n3⟩) (by assumption) ?rest2n3
      case hy2n3 =>
        intro w' hSw
        go_simp
        try with_reducible rfl
      try simp only [Act.put, List.getElem_toArray, List.getElem_cons_succ, List.getElem_cons_zero, List.setIfInBounds_toArray, List.set_cons_zero, List.set_cons_succ]
      refine wpAnyH_take (i := 3) (oi := _) (v := ?v3n4) rfl (by kernel_rfl) (by kernel_rfl) (by kernel_rfl) (fun _ _ _ h => h) (Or.inl ⟨by rfl, ?hy3n4⟩) (by assumption) ?rest3n4
      case hy3n4 =>
        intro w' hSw
        go_simp
        try with_reducible rfl
      try simp only [Act.put, List.getElem_toArray, List.getElem_cons_succ, List.getElem_cons_zero, List.setIfInBounds_toArray, List.set_cons_zero, List.set_cons_succ]
      refine' wpAnyH_take (i := 4) (oi := _) (v := _) rfl (by kernel_rfl) (by kernel_rfl) (by kernel_rfl) (fun _ _ _ h => h) (yieldsIf_load_mid (by rfl) _ _ rfl _ _ rfl _ _ ?hS4n5 Tryd.underlying32 rfl HIX.out) (by assumption) ?rest4n5
      case hS4n5 =>
        intro w' hSw
        exact hSw.1
      try simp only [Act.put, List.getElem_toArray, List.getElem_cons_succ, List.getElem_cons_zero, List.setIfInBounds_toArray, List.set_cons_zero, List.set_cons_succ]
      refine' wpAnyH_take (i := 5) (oi := _) (v := _) rfl (by kernel_rfl) (by kernel_rfl) (by kernel_rfl) (fun _ _ _ h => h) (yieldsIf_load_mid (by rfl) _ _ rfl _ _ rfl _ _ ?hS5n6 Tryd.underlying32 rfl HID.out) (by assumption) ?rest5n6
      case hS5n6 =>
        intro w' hSw
        exact hSw.2
      try simp only [Act.put, List.getElem_toArray, List.getElem_cons_succ, List.getElem_cons_zero, List.setIfInBounds_toArray, List.set_cons_zero, List.set_cons_succ]
      refine wpAnyH_take (i := 6) (oi := _) (v := ?v6n7) rfl (by kernel_rfl) (by kernel_rfl) (by kernel_rfl) (fun _ _ _ h => h) (Or.inl ⟨by rfl, ?hy6n7⟩) (by assumption) ?rest6n7
      case hy6n7 =>
        intro w' hSw
        go_simp
        try with_reducible rfl
      try simp only [Act.put, List.getElem_toArray, List.getElem_cons_succ, List.getElem_cons_zero, List.setIfInBounds_toArray, List.set_cons_zero, List.set_cons_succ]
      refine wpAnyH_done (by kernel_rfl) ?_ _
      clear hHeld
      cases c
      · go_wp2_with fail
        go_roundw
        case rel =>
          refine ⟨k + 1, by omega, by go_num, ?_, HB1⟩
          show ∀ y ∈ l.take (k + 1), y.d ≠ d
          rw [List.take_add_one, HXX.out]
          intro y hm
          rcases List.mem_append.1 hm with hm | hm
          · exact HT.out y hm
          · have e : y = x := by simpa using hm
            rw [e]; exact of_decide_eq_false HC.out
        case measure => simp [intOf]; omega
      · have HE := Lib.hid (of_decide_eq_true HC.out)
        go_wp2_with fail
        go_ret2
        exact ⟨.inr ⟨k, x, rfl, HXX.out, HE.out, HT.out⟩, HB2.out⟩
    · obtain rfl : k = n := by omega
      have hd : decide ((k : Int) < (k : Int)) = false := by simp
      have HM := Lib.hid (show ∀ y ∈ l, y.d ≠ d by
        have h1 := HT.out
        rwa [List.take_of_length_le (by rw [HL.out.len]; exact Nat.le_refl _)] at h1)
      go_wp2_with fail
      go_ret2
      exact ⟨.inl ⟨rfl, HM.out⟩, HBW.out⟩
end Go.Proofs.YtfehgkpmjnmpeaaDoor
