/-
  The walks of pattern.Relocate and what it calls (condition: strings of at most 1000 bytes).
-/
import Derived.Test.YtmafefdchglpbabDoorPatI
namespace Go.Proofs.YtmafefdchglpbabDoor
open Go.RowKit

/-- whether a string begins with another one -/
def hasP (s p : ByteArray) : Bool := decide (s.data.toList.take p.size = p.data.toList)
def dirB (d : ByteArray) : Bool := (d.toList == []) || pathB d
def insB (d : ByteArray) : ByteArray := if d.toList == [] then ⟨#[]⟩ else d ++ slB
def movB (a b s : ByteArray) : ByteArray := insB b ++ s.extract (insB a).size s.size
def relOk (a b s : ByteArray) : Bool := dirB a && (dirB b && (pathB s && (hasP s (insB a) && pathB (movB a b s))))
def relB (a b s : ByteArray) : ByteArray := if relOk a b s = true then movB a b s else ⟨#[]⟩
theorem take_eqS (s p : ByteArray) : ((s.extract 0 p.size).toList == p.toList) = hasP s p := by
  unfold hasP
  rw [Lib.toList_data, Lib.toList_data, ByteArray.data_extract, Array.toList_extract, List.extract_eq_take_drop, List.drop_zero, Nat.sub_zero, Bool.eq_iff_iff, beq_iff_eq, decide_eq_true_iff]
theorem hasP_short {s p : ByteArray} (h : s.size < p.size) : hasP s p = false := by
  unfold hasP; rw [decide_eq_false_iff_not]; intro e
  have := congrArg List.length e; rw [List.length_take, ← Lib.size_eq, ← Lib.size_eq] at this; omega
theorem hasP_size {s p : ByteArray} (h : hasP s p = true) : p.size ≤ s.size := by
  rcases Nat.lt_or_ge s.size p.size with h1 | h1
  · rw [hasP_short h1] at h; cases h
  · exact h1
set_option maxHeartbeats 400000 in
theorem prefixLite_anyS (s p : ByteArray) (w : World) (hp : p.size ≤ 1000000) :
    Calls Tryd.prog 58 #[.string s, .string p] w fun e w' => e = .returned (.bool (hasP s p)) ∧ w = w' := by
  by_cases h2 : p.size ≤ s.size
  · have hd : decide ((s.size : Int) ≥ (p.size : Int)) = true := by simp; omega
    have hd2 : decide (p.size ≤ s.size) = true := by simp; omega
    have q0 : (0 : Int) ≤ (p.size : Int) := by omega
    have q1 : (p.size : Int) ≤ (s.size : Int) := by omega
    go_enter Tryd.func58, Tryd.ntmps58
    go_wp2_with fail
    go_ret
    exact ⟨ret_boolP (take_eqS s p), rfl⟩
  · have hd : decide ((s.size : Int) ≥ (p.size : Int)) = false := by simp; omega
    have HX := Lib.hid (hasP_short (s := s) (p := p) (by omega))
    go_enter Tryd.func58, Tryd.ntmps58
    go_wp2_with fail
    go_ret
    exact ⟨by rw [HX.out]; rfl, rfl⟩
set_option maxHeartbeats 400000 in
theorem cutLite_anyS (s p : ByteArray) (w : World) (hp : p.size ≤ 1000000) :
    Calls Tryd.prog 50 #[.string s, .string p] w fun e w' => e = .returned (if hasP s p = true then .tuple #[.string (s.extract p.size s.size), .bool true] else .tuple #[.string s, .bool false]) ∧ w = w' := by
  have HP := Lib.hid (fun w => prefixLite_anyS s p w hp)
  have hsz := hasP_size (s := s) (p := p)
  obtain ⟨b, hb⟩ : ∃ b, hasP s p = b := ⟨_, rfl⟩
  rw [hb] at HP hsz ⊢
  clear hb
  cases b
  · clear hsz
    rw [if_neg (by simp)]
    go_enter Tryd.func50, Tryd.ntmps50
    go_wp2_with fail
    refine (HP.out _).mono ?_
    rintro e w' ⟨rfl, rfl⟩
    go_wp2_with fail
    go_ret2
    exact ⟨rfl, rfl⟩
  · have h1 := hsz rfl
    have q0 : (0 : Int) ≤ (p.size : Int) := by omega
    have q1 : (p.size : Int) ≤ (s.size : Int) := by omega
    clear hsz
    rw [if_pos rfl]
    go_enter Tryd.func50, Tryd.ntmps50
    go_wp2_with fail
    refine (HP.out _).mono ?_
    rintro e w' ⟨rfl, rfl⟩
    go_wp2_with fail
    go_ret2
    exact ⟨rfl, rfl⟩
set_option maxHeartbeats 400000 in
theorem cut_anyS (s p : ByteArray) (w : World) (hp : p.size ≤ 1000000) :
    Calls Tryd.prog 28 #[.string s, .string p] w fun e w' => e = .returned (if hasP s p = true then .tuple #[.string (s.extract p.size s.size), .bool true] else .tuple #[.string s, .bool false]) ∧ w = w' := by
  have HP := Lib.hid (fun w => cutLite_anyS s p w hp)
  obtain ⟨b, hb⟩ : ∃ b, hasP s p = b := ⟨_, rfl⟩
  rw [hb] at HP ⊢
  clear hb
  cases b
  all_goals
    go_enter Tryd.func28, Tryd.ntmps28
    go_wp2_with fail
    refine (HP.out _).mono ?_
    rintro e w' ⟨rfl, rfl⟩
    go_wp2_with fail
    go_ret2
    exact ⟨rfl, rfl⟩
set_option maxHeartbeats 400000 in
theorem directory_any (d : ByteArray) (w : World) :
    Calls Tryd.prog 27 #[.string d] w fun e w' => e = .returned (.bool (dirB d)) ∧ Below w.heap.size w w' := by
  have HP := Lib.hid (fun w => Path_any d w)
  have hD : Hid (dirB d = ((d.toList == []) || pathB d)) := rfl
  by_cases h : (d.toList == []) = true
  · have HX : Hid (dirB d = true) := by show _ = _; rw [hD.out, h]; rfl
    go_enter Tryd.func27, Tryd.ntmps27
    go_wp2_with fail
    go_ret
    exact ⟨by rw [HX.out]; rfl, Below.refl _ _⟩
  · have h : (d.toList == []) = false := by simpa using h
    have HX : Hid (dirB d = pathB d) := by show _ = _; rw [hD.out, h]; rfl
    go_enter Tryd.func27, Tryd.ntmps27
    go_wp2_with fail
    refine (HP.out _).mono ?_
    rintro e w' ⟨rfl, hb⟩
    go_wp2_with fail
    go_ret
    exact ⟨by rw [HX.out]; rfl, hb⟩
set_option maxHeartbeats 400000 in
theorem inside_any (d : ByteArray) (w : World) (hd : d.size ≤ 1000000) :
    Calls Tryd.prog 29 #[.string d] w fun e w' => e = .returned (.string (insB d)) ∧ w = w' := by
  have hD : Hid (insB d = if d.toList == [] then ⟨#[]⟩ else d ++ slB) := rfl
  by_cases h : (d.toList == []) = true
  · have HX : Hid (insB d = ⟨#[]⟩) := by show _ = _; rw [hD.out, if_pos h]
    go_enter Tryd.func29, Tryd.ntmps29
    go_wp2_with fail
    go_ret
    exact ⟨by rw [HX.out]; rfl, rfl⟩
  · have HX : Hid (insB d = d ++ slB) := by show _ = _; rw [hD.out, if_neg h]
    have h : (d.toList == []) = false := by simpa using h
    have hsz : d.size + 1 ≤ 9223372036854775807 := by omega
    go_enter Tryd.func29, Tryd.ntmps29
    go_wp2_with fail
    go_ret
    exact ⟨by rw [HX.out]; rfl, rfl⟩
theorem insB_size (d : ByteArray) : (insB d).size ≤ d.size + 1 := by
  unfold insB
  split
  · exact Nat.zero_le _
  · rw [ByteArray.size_append]; exact Nat.le_refl _
theorem relB_ok {a b s : ByteArray} (h : relOk a b s = true) : relB a b s = movB a b s := by unfold relB; rw [if_pos h]
theorem relB_no {a b s : ByteArray} (h : relOk a b s = false) : relB a b s = ⟨#[]⟩ := by unfold relB; rw [if_neg (by rw [h]; simp)]
set_option maxRecDepth 100000 in
set_option maxHeartbeats 1000000 in
theorem Relocate_any (a b s : ByteArray) (w : World) (ha : a.size ≤ 1000) (hb : b.size ≤ 1000) (hs : s.size ≤ 1000) :
    Calls Tryd.prog 16 #[.string a, .string b, .string s] w fun e w' => e = .returned (.tuple #[.string (relB a b s), .bool (relOk a b s)]) ∧ Below w.heap.size w w' := by
  have hia := insB_size a
  have hib := insB_size b
  have H1 := Lib.hid (fun w => directory_any a w)
  have H2 := Lib.hid (fun w => directory_any b w)
  have H3 := Lib.hid (fun w => Path_any s w)
  have H4 := Lib.hid (fun w => inside_any a w (by omega))
  have H5 := Lib.hid (fun w => inside_any b w (by omega))
  have H6 := Lib.hid (fun w => cut_anyS s (insB a) w (by omega))
  have H7 := Lib.hid (fun w => Path_any (movB a b s) w)
  have HM : Hid (movB a b s = insB b ++ s.extract (insB a).size s.size) := rfl
  have HO : Hid (relOk a b s = (dirB a && (dirB b && (pathB s && (hasP s (insB a) && pathB (movB a b s)))))) := rfl
  have HNO := Lib.hid (fun h => relB_no (a := a) (b := b) (s := s) h)
  have HYES := Lib.hid (fun h => relB_ok (a := a) (b := b) (s := s) h)
  obtain ⟨r, hr⟩ : ∃ r, relB a b s = r := ⟨_, rfl⟩
  obtain ⟨ok, hok⟩ : ∃ r, relOk a b s = r := ⟨_, rfl⟩
  obtain ⟨d1, hd1⟩ : ∃ r, dirB a = r := ⟨_, rfl⟩
  obtain ⟨d2, hd2⟩ : ∃ r, dirB b = r := ⟨_, rfl⟩
  obtain ⟨p3, hp3⟩ : ∃ r, pathB s = r := ⟨_, rfl⟩
  obtain ⟨h4, hh4⟩ : ∃ r, hasP s (insB a) = r := ⟨_, rfl⟩
  obtain ⟨p5, hp5⟩ : ∃ r, pathB (movB a b s) = r := ⟨_, rfl⟩
  obtain ⟨mv, hmv⟩ : ∃ r, movB a b s = r := ⟨_, rfl⟩
  rw [hd1] at H1 HO
  rw [hd2] at H2 HO
  rw [hp3] at H3 HO
  rw [hh4] at H6 HO
  rw [hp5] at H7 HO
  rw [hok] at HO HNO HYES ⊢
  rw [hr] at HNO HYES ⊢
  rw [hmv] at H7 HM HYES
  obtain ⟨x, hx⟩ : ∃ x, s.extract (insB a).size s.size = x := ⟨_, rfl⟩
  have hxs : x.size ≤ 1000 := by rw [← hx, ByteArray.size_extract]; omega
  rw [hx] at H6 HM
  obtain ⟨ia, hia2⟩ : ∃ x, insB a = x := ⟨_, rfl⟩
  rw [hia2] at H4 H6 hia
  obtain ⟨ib, hib2⟩ : ∃ x, insB b = x := ⟨_, rfl⟩
  rw [hib2] at H5 HM hib
  clear hr hok hd1 hd2 hp3 hh4 hp5 hmv hx hia2 hib2
  have hs1 : ib.size + s.size ≤ 9223372036854775807 := by omega
  have hs2 : ib.size + x.size ≤ 9223372036854775807 := by omega
  have HNOX : Hid (ok = false → .returned (.tuple #[.string ⟨#[]⟩, .bool false]) = Ending.returned (.tuple #[.string r, .bool ok])) := fun h => by rw [HNO.out h, h]
  have HYESX : Hid (ok = true → .returned (.tuple #[.string (ib ++ x), .bool true]) = Ending.returned (.tuple #[.string r, .bool ok])) := fun h => by rw [HYES.out h, HM.out, h]
  go_enter Tryd.func16, Tryd.ntmps16
  go_wp2_with fail
  refine (H1.out _).mono ?_
  rintro e w1 ⟨rfl, b1⟩
  cases d1
  · go_wp2_with fail
    go_ret2
    exact ⟨HNOX.out HO.out, b1⟩
  go_wp2_with fail
  refine (H2.out _).mono ?_
  rintro e w2 ⟨rfl, b2⟩
  have b2 := b1.trans (b2.mono b1.size)
  cases d2
  · go_wp2_with fail
    go_ret2
    exact ⟨HNOX.out HO.out, b2⟩
  go_wp2_with fail
  refine (H3.out _).mono ?_
  rintro e w3 ⟨rfl, b3⟩
  have b3 := b2.trans (b3.mono b2.size)
  clear b1 b2
  cases p3
  · go_wp2_with fail
    go_ret2
    exact ⟨HNOX.out HO.out, b3⟩
  go_wp2_with fail
  refine (H4.out _).mono ?_
  rintro e w4 ⟨rfl, rfl⟩
  go_wp2_with fail
  refine (H6.out _).mono ?_
  cases h4
  · rw [if_neg (by simp)]
    rintro e w4 ⟨rfl, rfl⟩
    go_wp2_with fail
    refine (H5.out _).mono ?_
    rintro e w4 ⟨rfl, rfl⟩
    go_wp2_with fail
    go_ret2
    exact ⟨HNOX.out HO.out, b3⟩
  · rw [if_pos (by first | rfl | trivial)]
    rintro e w4 ⟨rfl, rfl⟩
    go_wp2_with fail
    refine (H5.out _).mono ?_
    rintro e w4 ⟨rfl, rfl⟩
    rw [HM.out] at H7
    go_wp2_with fail
    refine (H7.out _).mono ?_
    rintro e w5 ⟨rfl, b5⟩
    have b5 := b3.trans (b5.mono b3.size)
    cases p5
    · go_wp2_with fail
      go_ret2
      exact ⟨HNOX.out HO.out, b5⟩
    · go_wp2_with fail
      go_ret2
      exact ⟨HYESX.out HO.out, b5⟩
end Go.Proofs.YtmafefdchglpbabDoor
