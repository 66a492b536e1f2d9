/-
  The walks of strings.Cut at a slash, record.Scope and record.Inner (conditions in each theorem).
-/
import Derived.Test.YtbbeeajkclbaaaaDoorZip
import Derived.Test.YtbbeeajkclbaaaaDoorRecM
import Derived.Shelf.RegionOpenPlain
set_option maxRecDepth 100000
set_option maxHeartbeats 8000000
namespace Go.Proofs.YtbbeeajkclbaaaaDoor
open Go.RowKit
theorem cutLite_slash (s : ByteArray) (w : World) (hs : s.size ≤ maxLen) :
 Calls Tryd.prog 35 #[.string s, .string (oneB 47)] w fun e w' => e = .returned (.tuple #[.string (ctA s), .string (ctB s), .bool (ctF s)]) ∧ Below w.heap.size w w' := by
 have HC := zh (fun w => indexLite_anyS s 47 w)
 rcases ct_cases s with ⟨h1, h2, h3, h4⟩ | ⟨i, h1, h2, h3, h4, h5⟩
 ·rw [h1, h2, h3]
  rw [show Lib.indexB s (oneB 47) = -1 from h4] at HC
  clear h1 h2 h3 h4
  go_enter Tryd.func35, Tryd.ntmps35
  go_wp2_with fail
  refine (HC.out _).mono ?_
  rintro e w' ⟨rfl, rfl⟩
  go_wp2_with fail
  go_ret3
  exact ⟨rfl, Below.refl _ _⟩
 ·rw [h1, h2, h3]
  rw [show Lib.indexB s (oneB 47) = (i : Int) from h4] at HC
  have hsz := oneB_size 47
  have c1 : (0 : Int) ≤ (i : Int) := by omega
  have c2 : (i : Int) ≤ (s.size : Int) := by omega
  have c3 : (0 : Int) ≤ (i : Int) + 1 := by omega
  have c4 : (i : Int) + 1 ≤ (s.size : Int) := by omega
  have c5 : IntKind.i64.wrap ((i : Int) + 1) = (i : Int) + 1 := IntWalk.i64_in _ (by unfold maxLen at hs; omega)
  have mixed : Tryd.prog.follows .mixedOrders = true := by kernel_rfl
  clear h1 h2 h3 h4
  go_enter Tryd.func35, Tryd.ntmps35
  go_wp2_with fail
  refine (HC.out _).mono ?_
  rintro e w' ⟨rfl, rfl⟩
  go_wp2_with fail
  go_region_o
  go_wp2_with fail
  go_ret3
  exact ⟨rfl, (Below.refl _ _).drew⟩
theorem cut_slash (s : ByteArray) (w : World) (hs : s.size ≤ maxLen) :
 Calls Tryd.prog 15 #[.string s, .string (oneB 47)] w fun e w' => e = .returned (.tuple #[.string (ctA s), .string (ctB s), .bool (ctF s)]) ∧ Below w.heap.size w w' := by
 have HC := zh (fun w => cutLite_slash s w hs)
 clear hs
 generalize ctA s = a at *
 generalize ctB s = b at *
 generalize ctF s = c at *
 go_enter Tryd.func15, Tryd.ntmps15
 go_wp2_with fail
 refine (HC.out _).mono ?_
 rintro e w' ⟨rfl, hb⟩
 have HB := zh hb
 clear hb
 go_wp2_with fail
 go_ret3
 exact ⟨rfl, HB.out⟩
theorem Scope_any (s : ByteArray) (w : World) (hs : s.size ≤ maxLen) :
 Calls Tryd.prog 6 #[.string s] w fun e w' => e = .returned (.bool (scpB s)) ∧ Below w.heap.size w w' := by
 by_cases he : (s.toList == []) = true
 ·have HX : Hid (scpB s = true) := by show _ = _; unfold scpB; rw [he]; rfl
  have hl : s.toList = [] := by simpa using he
  clear he
  go_enter Tryd.func6, Tryd.ntmps6
  go_wp2_with fail
  go_ret
  exact ⟨by rw [HX.out]; rfl, Below.refl _ _⟩
 ·have he : (s.toList == []) = false := by simpa using he
  have HX : Hid (scpB s = scpK 4 s) := by show _ = _; unfold scpB; rw [he]; rfl
  have hl2 : ¬ s.toList = [] := by simpa using he
  have HSZ := zh hs
  clear hs
  go_enter Tryd.func6, Tryd.ntmps6
  go_wp2_with fail
  clear he hl2
  go_loopw [0, 8] (fun a i wr => ∃ (k : Nat) (t : ByteArray), k ≤ 4 ∧ a = .string t ∧ i = .int .i64 k ∧ Hid (t.size ≤ maxLen) ∧ Hid (scpB s = scpK (4 - k) t) ∧ Hid (Below w.heap.size w wr)) (fun _ i _ => 4 - (intOf i).toNat)
  case atStart => exact ⟨0, s, by omega, rfl, rfl, HSZ.out, HX.out, Below.refl _ _⟩
  case round =>
   clear HX
   obtain ⟨k, t, hk, rfl, rfl, HT, HS, HB⟩ := hrel
   by_cases hlt : k < 4
   ·have hd : decide ((k : Int) < 4) = true := by simp; omega
    have HC := zh (cut_slash t wr HT.out)
    have HN := zh (fun w => Name_any (ctA t) w (Nat.le_trans (ctA_size t) HT.out))
    have HT2 : Hid ((ctB t).size ≤ maxLen) := Nat.le_trans (ctB_size t) HT.out
    have HK : Hid (scpB s = (nmB (ctA t).data.toList && (!ctF t || scpK (4 - (k + 1)) (ctB t)))) := by
     show _ = _; rw [HS.out, ← scpK_ct, show 4 - k = 4 - (k + 1) + 1 from by omega]
    clear HS HT
    generalize nmB (ctA t).data.toList = nm at *
    generalize ctA t = a1 at *
    generalize ctB t = a2 at *
    generalize ctF t = f at *
    go_wp2_with fail
    refine HC.out.mono ?_
    rintro e w1 ⟨rfl, hb⟩
    have HB1 : Hid (Below w.heap.size w w1) := HB.out.trans (hb.mono HB.out.size)
    clear hb HC HB
    go_wp2_with fail
    refine (HN.out w1).mono ?_
    rintro e w2 ⟨rfl, rfl⟩
    cases nm
    ·go_wp2_with fail
     go_ret
     exact ⟨by rw [HK.out]; rfl, HB1.out⟩
    ·cases f
     ·go_wp2_with fail
      go_ret
      exact ⟨by rw [HK.out]; rfl, HB1.out⟩
     ·go_wp2_with fail
      go_roundw
      case rel => exact ⟨k + 1, a2, by omega, rfl, by go_num, HT2.out, HK.out, HB1.out⟩
      case measure => simp [intOf]; omega
   ·obtain rfl : k = 4 := by omega
    have hd : decide (((4 : Nat) : Int) < 4) = false := by simp
    have HZ : Hid (scpB s = false) := by show _ = _; rw [HS.out]; exact scpK_zero t
    clear HS
    go_wp2_with fail
    go_ret
    exact ⟨by rw [HZ.out]; rfl, HB.out⟩
theorem Inner_any (s t : ByteArray) (w : World) (hs : s.size ≤ 1000000) (ht : t.size ≤ 1000000) :
 Calls Tryd.prog 8 #[.string s, .string t] w fun e w' => e = .returned (.string (innB s t)) ∧ w = w' := by
 by_cases he : (s.toList == []) = true
 ·have HX : Hid (innB s t = t) := by show _ = _; unfold innB; rw [if_pos he]
  have hl : s.toList = [] := by simpa using he
  go_enter Tryd.func8, Tryd.ntmps8
  go_wp2_with fail
  go_ret
  exact ⟨by rw [HX.out]; rfl, rfl⟩
 ·have he : (s.toList == []) = false := by simpa using he
  have HX : Hid (innB s t = s ++ slB ++ t) := by show _ = _; unfold innB; rw [if_neg (by rw [he]; simp)]
  have hl2 : ¬ s.toList = [] := by simpa using he
  have h1 : s.size + 1 ≤ 9223372036854775807 := by omega
  have h2 : s.size + 1 + t.size ≤ 9223372036854775807 := by omega
  go_enter Tryd.func8, Tryd.ntmps8
  go_wp2_with fail
  go_ret
  exact ⟨by rw [HX.out]; rfl, rfl⟩
end Go.Proofs.YtbbeeajkclbaaaaDoor
