/-
  VersionNumbers: the walk of the law.
-/
import Derived.Test.YtceeilojcifgeaaDoorVerT
import Derived.Test.YtceeilojcifgeaaDoorVerU
namespace Go.Proofs.YtceeilojcifgeaaDoor
open Go.RowKit

/-- bytes that came in -/
structure BytA (W : World) (sp : Option Addr) (n cap : Nat) (l : BL) : Prop where
  len : l.length = n
  cells : 0 < n → ∃ b off, sp = some ⟨b, off, none⟩ ∧ b < W.heap.size ∧ n ≤ cap ∧ ∀ i, ∀ h : i < l.length, W.cell? ⟨b, off + i, none⟩ = some (.int .u8 (l[i].toNat : Int))
  short : n ≤ 9223372036854775807
theorem bs_app (a b : BL) : bs a ++ bs b = bs (a ++ b) := by
  rw [← bs_of (bs a ++ bs b)]; simp [ByteArray.data_append, bs_data]
def dg10 (c : UInt8) : UInt8 := UInt8.ofNat (48 + c.toNat % 10)
theorem dg10_nat (c : UInt8) : ((dg10 c).toNat : Int) = 48 + (c.toNat : Int) % 10 := by
  unfold dg10; rw [UInt8.toNat_ofNat']; omega
theorem dg10_dig (c : UInt8) : isD (dg10 c) = true := by
  rw [isD_iff]; have := dg10_nat c; omega
theorem convOne (wr : World) (c : UInt8) : (convert 43 9 (.slice (some ⟨wr.heap.size, 0, none⟩) 1 1)).run Tryd.prog (wr.alloc (.cells #[.int .u8 (c.toNat : Int)] 5)) = .ok (.string (bs [c])) (wr.alloc (.cells #[.int .u8 (c.toNat : Int)] 5)) := by
  refine run_convert_bytes_back _ 43 9 5 _ 1 [c] Tryd.underlying43 Tryd.underlying5 Tryd.underlying9 (fun j hj => ?_)
  have hj0 : j = 0 := by simp at hj; omega
  subst hj0
  rw [Addr.add_mid, cell_of_row _ wr.heap.size (0 + 0) _ _ (0, 0) (heap_alloc_new wr _)]; rfl
theorem nextB {w w1 w2 : World} (h : Below w.heap.size w w1) (h2 : Below w1.heap.size w1 w2) : Below w.heap.size w w2 := h.trans (h2.mono h.size)
theorem cmpCall (s : Int) (a b : BL) (A C : ByteArray) (r : Int × Int) (hA : bs a = A) (hC : bs b = C) (h : cmpR s a b = r) (w : World) :
    Calls Tryd.prog 12 #[.int .i64 s, .string A, .string C] w fun e w' => e = .returned (.tuple #[.int .i64 r.1, .int .i64 r.2]) ∧ Below w.heap.size w w' := by
  have := compare_anyV s a b w
  rw [h, hA, hC] at this; exact this
set_option maxRecDepth 100000 in
set_option maxHeartbeats 4000000 in
theorem versionNumbers_any (sp : Option Addr) (n cap : Nat) (l : BL) (zz : Int) (w : World) (hb : BytA w sp n cap l) (hz : -9223372036854775808 ≤ zz ∧ zz ≤ 9223372036854775807) :
    Calls Tryd.prog 6 #[.slice sp n cap, .int .i64 zz] w fun e w' => e = .returned (.bool true) ∧ Below w.heap.size w w' := by
  have HBA := Lib.hid hb
  have hn := hb.short
  obtain ⟨hz1, hz2⟩ := hz
  clear hb
  go_enter Tryd.func6, Tryd.ntmps6
  go_wp2_with fail
  go_loopw [5, 6] (fun v i wr => ∃ (k : Nat) (x : BL), k ≤ n ∧ k ≤ 30 ∧ i = .int .i64 k ∧ v = .string (bs x) ∧ x.length = k + 1 ∧ Hid (Nz x ∧ Below w.heap.size w wr)) (fun _ i _ => n - (intOf i).toNat)
  case atStart => exact ⟨0, [49], Nat.zero_le _, by omega, rfl, rfl, rfl, ⟨by decide, 49, [], rfl, by decide⟩, Below.refl _ _⟩
  case round =>
    obtain ⟨k, x, hk, hk30, rfl, rfl, hxl, HX⟩ := hrel
    have HN := Lib.hid HX.out.1
    have HBE := Lib.hid HX.out.2
    by_cases hlt : k < n ∧ k < 30
    · obtain ⟨h1, h2⟩ := hlt
      obtain ⟨b, off, rfl, hbl, hcap, hc⟩ := HBA.out.cells (by omega)
      have hkl : k < l.length := by rw [HBA.out.len]; exact h1
      have hcell : wr.cell? ⟨b, off + k, none⟩ = some (.int .u8 (l[k].toNat : Int)) := (HBE.out.cell (p := ⟨b, off + k, none⟩) hbl).trans (hc k hkl)
      have hcv := convOne wr (dg10 l[k])
      rw [dg10_nat] at hcv
      have hap := Lib.hid (bs_app x [dg10 l[k]])
      have HNX := Lib.hid (HN.out.snoc (dg10 l[k]) (dg10_dig _))
      have hs1 : (bs x).size + 1 ≤ 9223372036854775807 := by rw [bs_size]; omega
      have hsx : (bs [dg10 l[k]]).size = 1 := rfl
      have c256 : l[k].toNat < 256 := UInt8.toNat_lt _
      have hz : wr.heap.size ≤ wr.heap.size := Nat.le_refl _
      have hbz := HBE.out.size
      have d1 : decide ((k : Int) < (n : Int)) = true := by simp; omega
      have d2 : decide ((k : Int) < 30) = true := by simp; omega
      have q0 : (0 : Int) ≤ (k : Int) := by omega
      have q1 : (k : Int) < (n : Int) := by omega
      generalize hsd : bs [dg10 l[k]] = sd at *
      have HSD := Lib.hid hsd
      generalize hsx2 : bs x = sx at *
      have HSX := Lib.hid hsx2
      clear hsd hsx2 hc
      generalize (l[k].toNat) = c at *
      go_wp2_with fail
      go_roundw
      case rel => exact ⟨k + 1, x ++ [dg10 l[k]], by omega, by omega, by go_num, by rw [hap.out], by rw [List.length_append, hxl]; rfl, HNX.out, HBE.out.alloc hbz _⟩
      case measure => simp [intOf]; omega
    · have hex : k = n ∨ (decide ((k : Int) < (n : Int)) = true ∧ decide ((k : Int) < 30) = false) := by
        by_cases h : k < n
        · exact .inr ⟨by simp; omega, by simp; omega⟩
        · exact .inl (by omega)
      obtain ⟨m, hm, hmv⟩ : ∃ m : Nat, m < 20 ∧ (wrap64 (zz.tmod 20 + 20)).tmod 20 = (m : Int) := by
        have h1 : zz.tmod 20 < 20 := Int.tmod_lt_of_pos _ (by omega)
        have h2 : -20 < zz.tmod 20 := by have := Int.lt_tmod_of_pos zz (b := 20) (by omega); omega
        have h3 : wrap64 (zz.tmod 20 + 20) = zz.tmod 20 + 20 := by unfold wrap64; omega
        rw [h3, Int.tmod_eq_emod_of_nonneg (by omega)]
        exact ⟨((zz.tmod 20 + 20) % 20).toNat, by omega, by omega⟩
      have HM := Lib.hid hmv
      clear hlt hmv
      have hsx : (bs x).size ≤ 31 := by rw [bs_size]; omega
      rcases hex with hkn | ⟨d1, d2⟩
      focus
        subst hkn
        have d1 : decide ((k : Int) < (k : Int)) = false := by simp
        go_wp2_with fail
      rotate_left
      focus
        go_wp2_with fail
      all_goals
        go_loopw [7, 8] (fun v i wq => ∃ (j : Nat), j ≤ m ∧ i = .int .i64 j ∧ v = .string (bs (List.replicate j 48 ++ x)) ∧ Hid (Below w.heap.size w wq)) (fun _ i _ => m - (intOf i).toNat)
        case atStart => exact ⟨0, Nat.zero_le _, rfl, rfl, HBE.out⟩
        case round =>
          obtain ⟨j, hj, rfl, rfl, HBQ⟩ := hrel
          have hmv := HM.out
          have hsz : (bs (List.replicate j 48 ++ x)).size = j + x.length := by rw [bs_size]; simp
          by_cases hlt : j < m
          · have hd : decide ((j : Int) < (m : Int)) = true := by simp; omega
            have hap := Lib.hid (bs_app [48] (List.replicate j 48 ++ x))
            have hs1 : (bs (List.replicate j 48 ++ x)).size + 1 ≤ 9223372036854775807 := by omega
            clear hsz
            generalize hsx2 : bs (List.replicate j 48 ++ x) = sx at *
            go_wp2_with fail
            all_goals
              go_roundw
              case rel => exact ⟨j + 1, by omega, by go_num, by rw [show List.replicate (j + 1) 48 ++ x = [48] ++ (List.replicate j 48 ++ x) from rfl, ← hap.out]; rfl, HBQ.out⟩
              case measure => simp [intOf]; omega
          · obtain rfl : j = m := by omega
            have hd : decide ((j : Int) < (j : Int)) = false := by simp
            have C1 := Lib.hid (fun w => cmpCall 3 x (List.replicate j 48 ++ x) _ _ (0, 0) rfl rfl (cmp_same3 HN.out j (by omega)) w)
            have C2 := Lib.hid (fun w => cmpCall 3 (List.replicate j 48 ++ x) (x ++ [48]) _ (bs x ++ ⟨#[48]⟩) (-1, 0) rfl (bs_app x [48]).symm (cmp_more3 HN.out j (by omega)) w)
            have C3 := Lib.hid (fun w => cmpCall 2 ((List.replicate j 48 ++ x) ++ [97]) (x ++ [97]) (bs (List.replicate j 48 ++ x) ++ ⟨#[97]⟩) (bs x ++ ⟨#[97]⟩) (0, 0) (bs_app _ [97]).symm (bs_app x [97]).symm (cmp_same2 HN.out j (by omega)) w)
            have C4 := Lib.hid (fun w => cmpCall 1 (x ++ [46, 48, 46, 48]) (x ++ [48, 46, 48, 46, 48]) (bs x ++ ⟨#[46, 48, 46, 48]⟩) (bs x ++ ⟨#[48, 46, 48, 46, 48]⟩) (-1, 0) (bs_app x [46, 48, 46, 48]).symm (bs_app x [48, 46, 48, 46, 48]).symm (cmp_more1 HN.out (by omega)) w)
            have hsw : (bs (List.replicate j 48 ++ x)).size ≤ 60 := by rw [hsz]; omega
            clear hsz HX HN
            generalize bs (List.replicate j 48 ++ x) = sw at *
            generalize bs x = sx at *
            have z1 : sx.size + 1 ≤ 9223372036854775807 := by omega
            have z2 : sx.size + 4 ≤ 9223372036854775807 := by omega
            have z3 : sx.size + 5 ≤ 9223372036854775807 := by omega
            have z4 : sw.size + 1 ≤ 9223372036854775807 := by omega
            clear hsw hsx
            go_wp2_with fail
            refine (C1.out _).mono ?_
            rintro e w1 ⟨rfl, b1⟩
            have B1 := Lib.hid b1; clear b1
            go_wp2_with fail
            refine (C2.out _).mono ?_
            rintro e w2 ⟨rfl, b2⟩
            have B2 := Lib.hid b2; clear b2
            go_wp2_with fail
            refine (C3.out _).mono ?_
            rintro e w3 ⟨rfl, b3⟩
            have B3 := Lib.hid b3; clear b3
            go_wp2_with fail
            refine (C4.out _).mono ?_
            rintro e w4 ⟨rfl, b4⟩
            have B4 := Lib.hid b4; clear b4
            go_wp2_with fail
            refine (awake6_any _).mono ?_
            rintro e w5 ⟨rfl, b5⟩
            have B5 := Lib.hid b5; clear b5
            go_wp2_with fail
            go_ret
            have t1 := nextB HBQ.out B1.out
            have t2 := nextB t1 B2.out
            have t3 := nextB t2 B3.out
            have t4 := nextB t3 B4.out
            exact ⟨rfl, nextB t4 B5.out⟩
end Go.Proofs.YtceeilojcifgeaaDoor
