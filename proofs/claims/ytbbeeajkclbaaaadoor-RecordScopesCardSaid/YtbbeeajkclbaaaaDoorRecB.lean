/-
  The walks of the reference's Scope and Inner (conditions in each theorem).
-/
import Derived.Test.YtbbeeajkclbaaaaDoorZip
import Derived.Test.YtbbeeajkclbaaaaDoorRecM
import Derived.Test.YtbbeeajkclbaaaaDoorDocNR
set_option maxRecDepth 100000
set_option maxHeartbeats 8000000
namespace Go.Proofs.YtbbeeajkclbaaaaDoor
open Go.RowKit
theorem segS_len (s : ByteArray) : (seg s).length = Lib.countB s (oneB 47) + 1 := Lib.splitB_all (oneB 47) (Nat.le_refl _) 0 _ s rfl
theorem segS_size (s : ByteArray) (n : Nat) (h : s.size ≤ n) : ∀ x ∈ seg s, x.size ≤ s.size := by
 induction n generalizing s with
 | zero =>
   intro x hx
   rcases ct_cases s with ⟨h1, h2, h3, h4⟩ | ⟨i, h1, h2, h3, h4, h5⟩
   ·rw [seg_miss s h4] at hx
    obtain rfl := List.mem_singleton.1 hx
    exact Nat.le_refl _
   ·omega
 | succ n ih =>
   intro x hx
   rcases ct_cases s with ⟨h1, h2, h3, h4⟩ | ⟨i, h1, h2, h3, h4, h5⟩
   ·rw [seg_miss s h4] at hx
    obtain rfl := List.mem_singleton.1 hx
    exact Nat.le_refl _
   ·rw [seg_hit s i h4] at hx
    rcases List.mem_cons.1 hx with rfl | hx
    ·rw [ByteArray.size_extract]; omega
    ·have h6 : (s.extract (i + 1) s.size).size ≤ n := by rw [ByteArray.size_extract]; omega
     have := ih _ h6 x hx
     rw [ByteArray.size_extract] at this
     omega
theorem refScope_any (s : ByteArray) (w : World) (hs : s.size ≤ 10000000) :
 Calls Tryd.prog 7 #[.string s] w fun e w' => e = .returned (.bool (scpB s)) ∧ Below w.heap.size w w' := by
 by_cases he : (s.toList == []) = true
 ·have HX : Hid (scpB s = true) := by show _ = _; unfold scpB; rw [he]; rfl
  have hl : s.toList = [] := by simpa using he
  clear he
  go_enter Tryd.func7, Tryd.ntmps7
  go_wp2_with fail
  go_ret
  exact ⟨by rw [HX.out]; rfl, Below.refl _ _⟩
 have he : (s.toList == []) = false := by simpa using he
 have HA : Hid (scpB s = ((seg s).all (fun x => nmB x.data.toList) && decide ((seg s).length ≤ 4))) := by show _ = _; unfold scpB; rw [he]; rfl
 have hl2 : ¬ s.toList = [] := by simpa using he
 have HSP := zh (fun w => split_anyS s 47 w hs)
 have hlen := segS_len s
 have hle := Lib.countB_le (oneB 47) (Nat.le_refl _) s.size s (Nat.le_refl _)
 have HZ := zh (segS_size s s.size (Nat.le_refl _))
 obtain ⟨N, hN⟩ : ∃ N, Lib.countB s (oneB 47) = N := ⟨_, rfl⟩
 rw [show Lib.splitB (oneB 47) 0 (Lib.countB s (oneB 47)) s = seg s from rfl, hN] at HSP
 rw [hN] at hlen hle
 have HL := zh hlen
 have hsz : N ≤ 10000000 := by omega
 have HSS := zh hs
 clear hN hlen he hle hs
 go_enter Tryd.func7, Tryd.ntmps7
 go_wp2_with fail
 refine (HSP.out _).mono ?_
 rintro e w1 ⟨rfl, hw1⟩
 have hrow : w1.heap[w.heap.size]? = some (.cells ((seg s).map Value.string).toArray 9 (0, 0)) := by rw [hw1]; exact heap_alloc_new w _
 have HB1 : Hid (Below w.heap.size w w1) := by show Below _ _ _; rw [hw1]; exact (Below.refl _ _).alloc (Nat.le_refl _) _
 have hcell : ∀ j, j < N + 1 → w1.cell? ⟨w.heap.size, j, none⟩ = some (.string ((seg s).getD j ByteArray.empty)) := fun j hj => by
  rw [cell_of_row w1 _ j _ _ _ hrow]; simp [HL.out, hj]
 have HCL := zh hcell
 clear hw1 hrow hcell HSP hl2
 go_wp2_with fail
 go_loopw [4] (fun i wx => ∃ k : Nat, k ≤ N + 1 ∧ i = .int .i64 k ∧ Hid (((seg s).take k).all (fun x => nmB x.data.toList) = true) ∧ Hid (wx = w1)) (fun i _ => N + 1 - (intOf i).toNat)
 case atStart => exact ⟨0, Nat.zero_le _, rfl, rfl, rfl⟩
 case round =>
  obtain ⟨k, hk, rfl, HG, hw⟩ := hrel
  obtain rfl := hw.out
  clear hw
  by_cases hlt : k < N + 1
  ·have hd2 : decide ((k : Int) < (N : Int) + 1) = true := by simp; omega
   have p1 : (0 : Int) ≤ (k : Int) := by omega
   have p2 : (k : Int) < (N : Int) + 1 := by omega
   have c1 := HCL.out k hlt
   have hkl : k < (seg s).length := by rw [HL.out]; exact hlt
   have hx0 : (seg s).getD k ByteArray.empty = (seg s)[k] := by rw [List.getD_eq_getElem?_getD, List.getElem?_eq_getElem hkl]; rfl
   have HSN : Hid (((seg s).take (k + 1)).all (fun x => nmB x.data.toList) = (((seg s).take k).all (fun x => nmB x.data.toList) && nmB ((seg s).getD k ByteArray.empty).data.toList)) := by
    show _ = _
    rw [List.take_succ_eq_append_getElem hkl, List.all_append, hx0]; simp
   have HBAD : Hid (nmB ((seg s).getD k ByteArray.empty).data.toList = false → (seg s).all (fun x => nmB x.data.toList) = false) := fun h => by
    rw [hx0] at h
    rw [List.all_eq_false]
    exact ⟨(seg s)[k], List.getElem_mem hkl, by rw [h]; simp⟩
   have HSX : Hid (((seg s).getD k ByteArray.empty).size ≤ maxLen) := by
    have h1 := HZ.out (seg s)[k] (List.getElem_mem hkl)
    have h2 := HSS.out
    show _ ≤ _; rw [hx0]; unfold maxLen; omega
   clear hx0 hkl
   obtain ⟨x, hx⟩ : ∃ x, (seg s).getD k ByteArray.empty = x := ⟨_, rfl⟩
   rw [hx] at c1 HSN HBAD HSX
   clear hx
   have HN := zh (fun w => refName_any x w HSX.out)
   by_cases hg : nmB x.data.toList = true
   ·rw [hg] at HN HSN
    have HGN : Hid (((seg s).take (k + 1)).all (fun x => nmB x.data.toList) = true) := by show _ = _; rw [HSN.out, HG.out]; rfl
    clear hg HBAD HSN
    go_wp2_with fail
    refine (HN.out _).mono ?_
    rintro e w2 ⟨rfl, rfl⟩
    go_wp2_with fail
    go_roundw
    case rel => exact ⟨k + 1, by omega, by go_num, HGN, by first | rfl | exact trivial⟩
    case measure => simp [intOf]; omega
   ·have hg : nmB x.data.toList = false := by simpa using hg
    have HX : Hid (scpB s = false) := by show _ = _; rw [HA.out, HBAD.out hg]; rfl
    rw [hg] at HN
    clear hg HBAD HSN
    go_wp2_with fail
    refine (HN.out _).mono ?_
    rintro e w2 ⟨rfl, rfl⟩
    go_wp2_with fail
    go_ret
    exact ⟨by rw [HX.out]; rfl, HB1.out⟩
  ·obtain rfl : k = N + 1 := by omega
   have hd2 : decide ((N : Int) + 1 < (N : Int) + 1) = false := by simp
   have hcast : ((N + 1 : Nat) : Int) = (N : Int) + 1 := by omega
   have HX : Hid (scpB s = decide (((N : Int) + 1) ≤ 4)) := by
    show _ = _; rw [HA.out]
    have := HG.out
    rw [List.take_of_length_le (by rw [HL.out]; exact Nat.le_refl _)] at this
    rw [this, HL.out, Bool.true_and]
    exact decide_eq_decide.2 ⟨fun h => by omega, fun h => by omega⟩
   go_wp2_with fail
   go_ret
   exact ⟨by rw [HX.out]; rfl, HB1.out⟩
theorem refInner_any (s t : ByteArray) (w : World) (hs : s.size ≤ 1000000) (ht : t.size ≤ 1000000) :
 Calls Tryd.prog 9 #[.string s, .string t] w fun e w' => e = .returned (.string (innB s t)) ∧ w = w' := by
 by_cases he : (s.toList == []) = true
 ·have HX : Hid (innB s t = t) := by show _ = _; unfold innB; rw [if_pos he]
  have hl : s.toList = [] := by simpa using he
  go_enter Tryd.func9, Tryd.ntmps9
  go_wp2_with fail
  go_ret
  exact ⟨by rw [HX.out]; rfl, rfl⟩
 ·have he : (s.toList == []) = false := by simpa using he
  have HX : Hid (innB s t = s ++ slB ++ t) := by show _ = _; unfold innB; rw [if_neg (by rw [he]; simp)]
  have hl2 : ¬ s.toList = [] := by simpa using he
  have h1 : s.size + 1 ≤ 9223372036854775807 := by omega
  have h2 : s.size + 1 + t.size ≤ 9223372036854775807 := by omega
  go_enter Tryd.func9, Tryd.ntmps9
  go_wp2_with fail
  go_ret
  exact ⟨by rw [HX.out]; rfl, rfl⟩
end Go.Proofs.YtbbeeajkclbaaaaDoor
