/-
  Versions: the walks of TrimLeft at "0" and of number; of TrimRight at a zero byte and of dropZeros (conditions: strings and keys of at most 100000 bytes).
-/
import Derived.Test.YtceeilojcifgeaaGreatDoorVerC
import Derived.Test.YtceeilojcifgeaaGreatDoorVerO
namespace Go.Proofs.YtceeilojcifgeaaGreatDoor
open Go.RowKit

set_option maxRecDepth 100000 in
set_option maxHeartbeats 1000000 in
theorem trimByte_any (l : BL) (w : World) (hl : l.length ≤ 100000) :
    Calls Tryz.prog 96 #[.string (bs l), .int .u8 48] w fun e w' => e = .returned (.string (bs (zs l))) ∧ w = w' := by
  go_enter Tryz.func96, Tryz.ntmps96
  go_wp2_with fail
  go_loop [0] (fun s => ∃ l' : BL, s = .string (bs l') ∧ l'.length ≤ 100000 ∧ Hid (zs l' = zs l)) (fun s => match s with | .string r => r.size | _ => 0)
  case atStart => exact ⟨l, rfl, hl, rfl⟩
  case round =>
    obtain ⟨l', rfl, hl', HZ⟩ := hrel
    cases l' with
    | nil =>
      have HX := Lib.hid (show bs (zs l) = ⟨#[]⟩ by rw [← HZ.out]; rfl)
      have e0 : (bs []) = ⟨#[]⟩ := rfl
      rw [e0]
      clear e0
      go_wp2_with fail
      go_ret
      exact ⟨by rw [HX.out]; rfl, rfl⟩
    | cons x l' =>
      obtain ⟨r, hr, hg, hs, -, hd⟩ := bs_facts (x :: l')
      have HD := Lib.hid (show r.extract 1 r.size = bs l' from hd 1)
      have hsz : 0 < r.size := by rw [hs]; simp
      have q0 : (0 : Int) ≤ (1 : Int) := by omega
      have q1 : (1 : Int) ≤ (r.size : Int) := by omega
      have q2 : (0 : Int) < (r.size : Int) := by omega
      have HG := Lib.hid (show r[0] = x from hg 0 hsz (by simp))
      have HSZ := Lib.hid hs
      have HR := Lib.hid hr
      rw [hr]
      clear hg hs hr hd
      obtain ⟨q, hq⟩ : ∃ q, ((r[0].toNat : Int) == 48) = q := ⟨_, rfl⟩
      have HQ := Lib.hid (show (x == 48) = q by
        rw [← hq, HG.out, Bool.eq_iff_iff, beq_iff_eq, beq_iff_eq, ← UInt8.toNat_inj]
        show x.toNat = 48 ↔ _
        omega)
      cases q
      · have HX := Lib.hid (show zs l = x :: l' by rw [← HZ.out]; unfold zs; rw [List.dropWhile_cons, HQ.out]; rfl)
        go_wp2_with fail
        go_ret
        exact ⟨by rw [HX.out, HR.out]; rfl, rfl⟩
      · have HX := Lib.hid (show zs l' = zs l by rw [← HZ.out]; unfold zs; rw [List.dropWhile_cons, HQ.out]; rfl)
        have hl2 : l'.length ≤ 100000 := by simp at hl'; omega
        go_wp2_with fail
        go_round
        case rel => exact ⟨l', by rw [← HD.out], hl2, HX.out⟩
        case measure => rw [HD.out]; show (bs l').size < r.size; rw [bs_size]; have := HSZ.out; simp at this; omega
set_option maxRecDepth 100000 in
set_option maxHeartbeats 1000000 in
theorem trimZeros_any (l : BL) (w : World) (hl : l.length ≤ 100000) :
    Calls Tryz.prog 83 #[.string (bs l), .string { data := #[48] }] w fun e w' => e = .returned (.string (bs (zs l))) ∧ w = w' := by
  cases l with
  | nil =>
    have e0 : (bs []) = ⟨#[]⟩ := rfl
    have e1 : zs [] = [] := rfl
    rw [e1, e0]
    clear e0 e1
    go_enter Tryz.func83, Tryz.ntmps83
    go_wp2_with fail
    go_ret
    exact ⟨by rfl, rfl⟩
  | cons x l =>
    have HC := Lib.hid (fun w => trimByte_any (x :: l) w hl)
    have hne : ((bs (x :: l)).toList == []) = false := by rw [Lib.toList_data, bs_data]; rfl
    have hem : (bs (x :: l)).toList.isEmpty = false := by rw [Lib.toList_data, bs_data]; rfl
    generalize bs (x :: l) = r at *
    generalize bs (zs (x :: l)) = r2 at *
    go_enter Tryz.func83, Tryz.ntmps83
    go_wp2_with fail
    refine (HC.out _).mono ?_
    rintro e w' ⟨rfl, rfl⟩
    go_wp2_with fail
    go_ret
    exact ⟨by rfl, rfl⟩
set_option maxRecDepth 100000 in
set_option maxHeartbeats 1000000 in
theorem number_any (B b : Nat) (l : BL) (r : ByteArray) (k : BL) (w : World) (h : Rd B w b r k) (hk : k.length ≤ 90000) (hl : l.length ≤ 100) :
    Calls Tryz.prog 63 #[.pointer (some ⟨b, 1, none⟩), .string (bs l)] w fun e w' => e = .returned (.tuple #[]) ∧ Rd B w' b r (k ++ num l) ∧ Below B w w' := by
  have hz := zs_len l
  have HT := Lib.hid (fun w => trimZeros_any l w (by omega))
  have HM := Lib.hid (fun w h => mark_any B b (UInt8.ofNat (zs l).length) r k w h (by omega))
  have HW := Lib.hid (fun w h => word_any B b (zs l) r (k ++ [UInt8.ofNat (zs l).length]) w h (by simp; omega) (by omega))
  have HH := Lib.hid h
  have HN := Lib.hid (show k ++ num l = (k ++ [UInt8.ofNat (zs l).length]) ++ zs l by unfold num; simp)
  have e1 : (UInt8.ofNat (zs l).length).toNat = (bs (zs l)).size := by rw [UInt8.toNat_ofNat', bs_size]; omega
  have hsz : (bs (zs l)).size ≤ 100 := by rw [bs_size]; omega
  rw [e1] at HM
  generalize bs (zs l) = s at *
  clear h e1 hz
  go_enter Tryz.func63, Tryz.ntmps63
  go_wp2_with fail
  refine (HT.out _).mono ?_
  rintro e w' ⟨rfl, rfl⟩
  go_wp2_with fail
  refine (HM.out _ HH.out).mono ?_
  rintro e w1 ⟨rfl, h1, b1⟩
  have H1 := Lib.hid h1; have B1 := Lib.hid b1; clear h1 b1
  go_wp2_with fail
  refine (HW.out _ H1.out).mono ?_
  rintro e w2 ⟨rfl, h2, b2⟩
  have H2 := Lib.hid h2; have B2 := Lib.hid b2; clear h2 b2
  go_wp2_with fail
  go_end0
  exact ⟨rfl, by rw [HN.out]; exact H2.out, B1.out.trans B2.out⟩
end Go.Proofs.YtceeilojcifgeaaGreatDoor
