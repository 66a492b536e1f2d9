/-
  The walks of the reference's Relocate and of the statement PatternRelocates: it returns true for all strings.
-/
import Derived.Test.YtkookkhlgllneaaDoorPatT
namespace Go.Proofs.YtkookkhlgllneaaDoor
open Go.RowKit

set_option maxRecDepth 100000 in
set_option maxHeartbeats 1000000 in
theorem refRelocate_any (a b s : ByteArray) (w : World) (ha : a.size ≤ 1000) (hb : b.size ≤ 1000) (hs : s.size ≤ 1000) :
    Calls Tryd.prog 72 #[.string a, .string b, .string s] w fun e w' => e = .returned (.tuple #[.string (relB a b s), .bool (relOk a b s)]) ∧ Below w.heap.size w w' := by
  have H1 := Lib.hid (fun w => refDirectory_any a w)
  have H2 := Lib.hid (fun w => refDirectory_any b w)
  have H3 := Lib.hid (fun w => refPath_any s w)
  have H6 := Lib.hid (fun h w => refRest_any a s w ha h)
  have H7 := Lib.hid (fun w => refPath_any (movB a b s) w)
  have HM : Hid (movB a b s = insB b ++ s.extract (insB a).size s.size) := rfl
  have HO : Hid (relOk a b s = (dirB a && (dirB b && (pathB s && (hasP s (insB a) && pathB (movB a b s)))))) := rfl
  have HNO := Lib.hid (fun h => relB_no (a := a) (b := b) (s := s) h)
  have HYES := Lib.hid (fun h => relB_ok (a := a) (b := b) (s := s) h)
  obtain ⟨r, hr⟩ : ∃ r, relB a b s = r := ⟨_, rfl⟩
  obtain ⟨ok, hok⟩ : ∃ r, relOk a b s = r := ⟨_, rfl⟩
  obtain ⟨d1, hd1⟩ : ∃ r, dirB a = r := ⟨_, rfl⟩
  obtain ⟨d2, hd2⟩ : ∃ r, dirB b = r := ⟨_, rfl⟩
  obtain ⟨p3, hp3⟩ : ∃ r, pathB s = r := ⟨_, rfl⟩
  obtain ⟨h4, hh4⟩ : ∃ r, hasP s (insB a) = r := ⟨_, rfl⟩
  obtain ⟨p5, hp5⟩ : ∃ r, pathB (movB a b s) = r := ⟨_, rfl⟩
  obtain ⟨mv, hmv⟩ : ∃ r, movB a b s = r := ⟨_, rfl⟩
  rw [hd1] at H1 HO
  rw [hd2] at H2 HO
  rw [hp3] at H3 HO H6
  rw [hh4] at H6 HO
  rw [hp5] at H7 HO
  rw [hok] at HO HNO HYES ⊢
  rw [hr] at HNO HYES ⊢
  rw [hmv] at H7 HM HYES
  obtain ⟨x, hx⟩ : ∃ x, s.extract (insB a).size s.size = x := ⟨_, rfl⟩
  have hxs : x.size ≤ 1000 := by rw [← hx, ByteArray.size_extract]; omega
  rw [hx] at H6 HM
  have H5 := Lib.hid (fun w => refUnder_any b x w hb hxs)
  obtain ⟨ib, hib2⟩ : ∃ x, insB b = x := ⟨_, rfl⟩
  rw [hib2] at H5 HM
  clear hr hok hd1 hd2 hp3 hh4 hp5 hmv hx hib2
  have HNOX : Hid (ok = false → .returned (.tuple #[.string ⟨#[]⟩, .bool false]) = Ending.returned (.tuple #[.string r, .bool ok])) := fun h => by rw [HNO.out h, h]
  have HYESX : Hid (ok = true → .returned (.tuple #[.string (ib ++ x), .bool true]) = Ending.returned (.tuple #[.string r, .bool ok])) := fun h => by rw [HYES.out h, HM.out, h]
  rw [HM.out] at H7
  go_enter Tryd.func72, Tryd.ntmps72
  go_wp2_with fail
  refine (H1.out _).mono ?_
  rintro e w1 ⟨rfl, b1⟩
  cases d1
  · go_wp2_with fail
    go_ret2
    exact ⟨HNOX.out HO.out, b1⟩
  go_wp2_with fail
  refine (H2.out _).mono ?_
  rintro e w2 ⟨rfl, b2⟩
  have b2 := b1.trans (b2.mono b1.size)
  cases d2
  · go_wp2_with fail
    go_ret2
    exact ⟨HNOX.out HO.out, b2⟩
  go_wp2_with fail
  refine (H3.out _).mono ?_
  rintro e w3 ⟨rfl, b3⟩
  have b3 := b2.trans (b3.mono b2.size)
  clear b1 b2
  cases p3
  · go_wp2_with fail
    go_ret2
    exact ⟨HNOX.out HO.out, b3⟩
  go_wp2_with fail
  refine (H6.out (by first | rfl | trivial) _).mono ?_
  cases h4
  · rw [if_neg (by simp)]
    rintro e w4 ⟨rfl, rfl⟩
    go_wp2_with fail
    go_ret2
    exact ⟨HNOX.out HO.out, b3⟩
  · rw [if_pos (by first | rfl | trivial)]
    rintro e w4 ⟨rfl, rfl⟩
    go_wp2_with fail
    refine (H5.out _).mono ?_
    rintro e w4 ⟨rfl, rfl⟩
    go_wp2_with fail
    refine (H7.out _).mono ?_
    rintro e w5 ⟨rfl, b5⟩
    have b5 := b3.trans (b5.mono b3.size)
    cases p5
    · go_wp2_with fail
      go_ret2
      exact ⟨HNOX.out HO.out, b5⟩
    · go_wp2_with fail
      refine (H5.out _).mono ?_
      rintro e w6 ⟨rfl, rfl⟩
      go_wp2_with fail
      go_ret2
      exact ⟨HYESX.out HO.out, b5⟩
end Go.Proofs.YtkookkhlgllneaaDoor
