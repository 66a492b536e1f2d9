/-
  The walks of document.escaped and document.Unword: which word an encoded form stands for (for every string of at most 2^40 bytes).
-/
import Derived.Test.YtmafefdchglpbaaDoorDocUM
namespace Go.Proofs.YtmafefdchglpbaaDoor
open Go.RowKit

theorem hexD_data : (⟨#[48, 49, 50, 51, 52, 53, 54, 55, 56, 57, 65, 66, 67, 68, 69, 70]⟩ : ByteArray).data.toList = hexD := rfl
theorem byteOf2 (c : UInt8) : ((c.toNat : Int)).toNat.toUInt8 = c := by simp
theorem escD_two {s : ByteArray} (h : 2 ≤ s.size) : escD s.data.toList = escV s[0] s[1] := by
  obtain ⟨⟨l⟩⟩ := s
  match l, h with
  | a :: b :: t, _ => rfl
theorem escD_short {s : ByteArray} (h : s.size < 2) : escD s.data.toList = none := by
  obtain ⟨⟨l⟩⟩ := s
  match l, h with
  | [], _ => rfl
  | [a], _ => rfl
def EscRes (r : Option UInt8) (w : World) (e : Ending) (w' : World) : Prop :=
  (match r with | some v => e = .returned (.tuple #[.int .u8 (v.toNat : Int), .bool true]) | none => e = .returned (.tuple #[.int .u8 0, .bool false])) ∧ w = w'
theorem or_hexF : ∀ a b : Fin 16, (bits .or .i64 ((a.val : Int) * 16) (b.val : Int)) = ((16 * a.val + b.val : Nat) : Int) := by decide +kernel
theorem or_hex (a b : Nat) (ha : a < 16) (hb : b < 16) : bits .or .i64 ((a : Int) * 16) (b : Int) = ((16 * a + b : Nat) : Int) := or_hexF ⟨a, ha⟩ ⟨b, hb⟩

theorem hexIdx_none {c : UInt8} (h : hexV c = 16) (w : World) :
    Calls Tryd.prog 51 #[.string ⟨#[48, 49, 50, 51, 52, 53, 54, 55, 56, 57, 65, 66, 67, 68, 69, 70]⟩, .int .u8 (c.toNat : Int)] w fun e w' => e = .returned (.int .i64 (-1)) ∧ w = w' :=
  (indexByte_any _ _ w).mono fun e w' ⟨he, hw⟩ => ⟨by rw [he, byteOf2, hexD_data, index_hex, if_pos h], hw⟩
theorem hexIdx_some {c : UInt8} {x : Nat} (h : hexV c = x) (hx : x ≠ 16) (w : World) :
    Calls Tryd.prog 51 #[.string ⟨#[48, 49, 50, 51, 52, 53, 54, 55, 56, 57, 65, 66, 67, 68, 69, 70]⟩, .int .u8 (c.toNat : Int)] w fun e w' => e = .returned (.int .i64 (x : Int)) ∧ w = w' :=
  (indexByte_any _ _ w).mono fun e w' ⟨he, hw⟩ => ⟨by rw [he, byteOf2, hexD_data, index_hex, if_neg (by rw [h]; exact hx), h], hw⟩

set_option maxHeartbeats 1000000 in
theorem escaped_any (s : ByteArray) (w : World) (hs : s.size ≤ 1099511627776) :
    Calls Tryd.prog 100 #[.string s] w (EscRes (escD s.data.toList) w) := by
  by_cases h2 : s.size < 2
  · have HR := Lib.hid (escD_short h2)
    generalize escD s.data.toList = r at *
    go_enter Tryd.func100, Tryd.ntmps100
    go_wp2_with fail
    go_ret2
    exact ⟨by rw [HR.out]; rfl, rfl⟩
  · have HR := Lib.hid (escD_two (s := s) (by omega))
    generalize escD s.data.toList = r at *
    have h0 : 0 < s.size := by omega
    have h1 : 1 < s.size := by omega
    have hl0 := hexV_le s[0]
    have hl1 := hexV_le s[1]
    have HV := Lib.hid (show escV s[0] s[1] = if hexV s[0] = 16 ∨ hexV s[1] = 16 then none else if plnB ((16 * hexV s[0] + hexV s[1] : Nat) : Int) then none else some (UInt8.ofNat (16 * hexV s[0] + hexV s[1])) from rfl)
    obtain ⟨x, hx⟩ : ∃ x, hexV s[0] = x := ⟨_, rfl⟩
    obtain ⟨y, hy⟩ : ∃ y, hexV s[1] = y := ⟨_, rfl⟩
    rw [hx, hy] at HV
    rw [hx] at hl0; rw [hy] at hl1
    have HX := Lib.hid hx; have HY := Lib.hid hy; clear hx hy
    by_cases hx : x = 16
    · have HC1 := fun w => Lib.hid (hexIdx_none (HX.out.trans hx) w)
      have HRN : Hid (r = none) := by show _ = _; rw [HR.out, HV.out, if_pos (.inl hx)]
      clear HR HV
      by_cases hy : y = 16
      · have HC2 := fun w => Lib.hid (hexIdx_none (HY.out.trans hy) w)
        clear hx hy
        go_enter Tryd.func100, Tryd.ntmps100
        go_wp2_with fail
        refine (HC1 _).out.mono ?_; rintro e w' ⟨rfl, rfl⟩
        go_wp2_with fail
        refine (HC2 _).out.mono ?_; rintro e w' ⟨rfl, rfl⟩
        go_wp2_with fail
        go_ret2
        exact ⟨by rw [HRN.out]; rfl, rfl⟩
      · have HC2 := fun w => Lib.hid (hexIdx_some HY.out hy w)
        clear hx hy
        go_enter Tryd.func100, Tryd.ntmps100
        go_wp2_with fail
        refine (HC1 _).out.mono ?_; rintro e w' ⟨rfl, rfl⟩
        go_wp2_with fail
        refine (HC2 _).out.mono ?_; rintro e w' ⟨rfl, rfl⟩
        go_wp2_with fail
        go_ret2
        exact ⟨by rw [HRN.out]; rfl, rfl⟩
    · have HC1 := fun w => Lib.hid (hexIdx_some HX.out hx w)
      by_cases hy : y = 16
      · have HC2 := fun w => Lib.hid (hexIdx_none (HY.out.trans hy) w)
        have HRN : Hid (r = none) := by show _ = _; rw [HR.out, HV.out, if_pos (.inr hy)]
        clear HR HV hx hy
        go_enter Tryd.func100, Tryd.ntmps100
        go_wp2_with fail
        refine (HC1 _).out.mono ?_; rintro e w' ⟨rfl, rfl⟩
        go_wp2_with fail
        refine (HC2 _).out.mono ?_; rintro e w' ⟨rfl, rfl⟩
        go_wp2_with fail
        go_ret2
        exact ⟨by rw [HRN.out]; rfl, rfl⟩
      · have HC2 := fun w => Lib.hid (hexIdx_some HY.out hy w)
        have ho := or_hex x y (by omega) (by omega)
        have hlt : 16 * x + y < 256 := by omega
        have HV2 : Hid (r = if plnB ((16 * x + y : Nat) : Int) then none else some (UInt8.ofNat (16 * x + y))) := by
          show _ = _; rw [HR.out, HV.out, if_neg (fun h => h.elim hx hy)]
        clear HR HV hx hy
        have HO := Lib.hid ho; clear ho
        go_enter Tryd.func100, Tryd.ntmps100
        go_wp2_with fail
        refine (HC1 _).out.mono ?_; rintro e w' ⟨rfl, rfl⟩
        go_wp2_with fail
        refine (HC2 _).out.mono ?_; rintro e w' ⟨rfl, rfl⟩
        have ho := HO.out
        go_wp2_with fail
        have hcast : ((16 * x + y : Nat) : Int) = 16 * (x : Int) + (y : Int) := by omega
        rw [hcast] at HV2
        clear hcast ho HO
        cases hp : plnB (16 * (x : Int) + (y : Int))
        · have HP := Lib.hid hp; clear hp
          refine (plain_any _ _).mono ?_; rintro e w' ⟨rfl, rfl⟩
          rw [HP.out]
          go_wp2_with fail
          go_ret2
          have hv : ((UInt8.ofNat (16 * x + y)).toNat : Int) = 16 * (x : Int) + (y : Int) := by
            rw [UInt8.toNat_ofNat_of_lt' (by exact hlt)]; omega
          exact ⟨by rw [HV2.out, HP.out]; show _ = Ending.returned (.tuple #[.int .u8 ((UInt8.ofNat (16 * x + y)).toNat : Int), .bool true]); rw [hv]; rfl, rfl⟩
        · have HP := Lib.hid hp; clear hp
          refine (plain_any _ _).mono ?_; rintro e w' ⟨rfl, rfl⟩
          rw [HP.out]
          go_wp2_with fail
          go_ret2
          exact ⟨by rw [HV2.out, HP.out]; rfl, rfl⟩

/-- what Unword answers -/
def UnwRes (r : Option (List UInt8)) (w : World) (e : Ending) (w' : World) : Prop :=
  (match r with | some l => e = .returned (.tuple #[.string ⟨l.toArray⟩, .bool true]) | none => e = .returned (.tuple #[.string ⟨#[]⟩, .bool false])) ∧ Below w.heap.size w w'
theorem drop_cons_data (s : ByteArray) (k : Nat) (h : k < s.size) : s.data.toList.drop k = s[k] :: s.data.toList.drop (k + 1) := by
  rw [List.drop_eq_getElem_cons (by simpa using h)]; rfl
theorem map_append_none {acc : List UInt8} : (none : Option (List UInt8)).map (acc ++ ·) = none := rfl
/-- one byte read -/
theorem unw_step_plain {s : ByteArray} {k : Nat} {acc : List UInt8} {r : Option (List UInt8)} (hk : k < s.size) (h : r = (unwL (s.data.toList.drop k)).map (acc ++ ·)) (hp : plnB (s[k].toNat) = true) :
    r = (unwL (s.data.toList.drop (k + 1))).map ((acc ++ [s[k]]) ++ ·) := by
  rw [h, drop_cons_data s k hk, unwL_plain hp]
  cases unwL (s.data.toList.drop (k + 1)) <;> simp
theorem unw_step_other {s : ByteArray} {k : Nat} {acc : List UInt8} {r : Option (List UInt8)} (hk : k < s.size) (h : r = (unwL (s.data.toList.drop k)).map (acc ++ ·)) (hp : plnB (s[k].toNat) = false) (h37 : s[k] ≠ 37) : r = none := by
  rw [h, drop_cons_data s k hk, unwL_other hp h37]; rfl
theorem unw_step_bad {s : ByteArray} {k : Nat} {acc : List UInt8} {r : Option (List UInt8)} (hk : k < s.size) (h : r = (unwL (s.data.toList.drop k)).map (acc ++ ·)) (h37 : s[k] = 37) (he : escD (s.data.toList.drop (k + 1)) = none) : r = none := by
  rw [h, drop_cons_data s k hk, h37, unwL_esc, he]; rfl
theorem unw_step_esc {s : ByteArray} {k : Nat} {acc : List UInt8} {r : Option (List UInt8)} {v : UInt8} (hk : k < s.size) (h : r = (unwL (s.data.toList.drop k)).map (acc ++ ·)) (h37 : s[k] = 37) (he : escD (s.data.toList.drop (k + 1)) = some v) :
    k + 3 ≤ s.size ∧ r = (unwL (s.data.toList.drop (k + 3))).map ((acc ++ [v]) ++ ·) := by
  constructor
  · have hl : 2 ≤ (s.data.toList.drop (k + 1)).length := by
      match s.data.toList.drop (k + 1), he with
      | [], he => cases he
      | [_], he => cases he
      | _ :: _ :: _, _ => simp
    rw [List.length_drop, ← Lib.size_eq] at hl
    omega
  · rw [h, drop_cons_data s k hk, h37, unwL_esc, he]
    simp only [List.drop_drop]
    cases unwL (s.data.toList.drop (k + 3)) <;> simp
theorem unw_end {s : ByteArray} {acc : List UInt8} {r : Option (List UInt8)} (h : r = (unwL (s.data.toList.drop s.size)).map (acc ++ ·)) : r = some acc := by
  rw [h, List.drop_of_length_le (by rw [← Lib.size_eq]; exact Nat.le_refl _)]; simp [unwL]
theorem drop_data (s : ByteArray) (a : Nat) : (s.extract a s.size).data.toList = s.data.toList.drop a := by
  rw [Lib.extract_data, List.take_of_length_le (by rw [List.length_drop, ← Lib.size_eq]; exact Nat.le_refl _)]
theorem escaped_none {s : ByteArray} {a : Nat} (h : escD (s.data.toList.drop a) = none) (hs : s.size ≤ 1099511627776) (w : World) :
    Calls Tryd.prog 100 #[.string (s.extract a s.size)] w fun e w' => e = .returned (.tuple #[.int .u8 0, .bool false]) ∧ w = w' :=
  (escaped_any (s.extract a s.size) w (by rw [ByteArray.size_extract]; omega)).mono fun e w' hr => by
    unfold EscRes at hr
    rw [drop_data, h] at hr
    exact hr
theorem escaped_some {s : ByteArray} {a : Nat} {v : UInt8} (h : escD (s.data.toList.drop a) = some v) (hs : s.size ≤ 1099511627776) (w : World) :
    Calls Tryd.prog 100 #[.string (s.extract a s.size)] w fun e w' => e = .returned (.tuple #[.int .u8 (v.toNat : Int), .bool true]) ∧ w = w' :=
  (escaped_any (s.extract a s.size) w (by rw [ByteArray.size_extract]; omega)).mono fun e w' hr => by
    unfold EscRes at hr
    rw [drop_data, h] at hr
    exact hr
theorem data_nil_of {s : ByteArray} (h : s.size = 0) : s.data.toList = [] := List.eq_nil_of_length_eq_zero (by rw [← Lib.size_eq]; exact h)
theorem data_ne_of {s : ByteArray} (h : s.size ≠ 0) : s.data.toList ≠ [] := fun e => h (by rw [Lib.size_eq, e]; rfl)

set_option maxRecDepth 100000 in
set_option maxHeartbeats 1000000 in
theorem Unword_any (s : ByteArray) (w : World) (hs : s.size ≤ 1099511627776) :
    Calls Tryd.prog 84 #[.string s] w (UnwRes (unword s.data.toList) w) := by
  by_cases h0 : s.size = 0
  · have HR := Lib.hid (show unword s.data.toList = none by rw [data_nil_of h0]; rfl)
    have e0 : s.toList = [] := by rw [Lib.toList_data]; exact data_nil_of h0
    generalize unword s.data.toList = r at *
    clear h0
    go_enter Tryd.func84, Tryd.ntmps84
    go_wp2_with fail
    go_ret2
    exact ⟨by rw [HR.out]; rfl, Below.refl _ _⟩
  · have hne := data_ne_of h0
    have e0 : s.toList.isEmpty = false := by
      rw [Lib.toList_data, List.isEmpty_eq_false_iff]; exact hne
    by_cases ht : s.data.toList = [126]
    · have HR := Lib.hid (show unword s.data.toList = some [] by rw [ht]; rfl)
      have e1 : (s.toList == [126]) = true := by rw [Lib.toList_data, ht]; rfl
      generalize unword s.data.toList = r at *
      clear h0 hne ht
      go_enter Tryd.func84, Tryd.ntmps84
      go_wp2_with fail
      go_ret2
      exact ⟨by rw [HR.out]; rfl, Below.refl _ _⟩
    · have HR := Lib.hid (show unword s.data.toList = (unwL (s.data.toList.drop 0)).map ([] ++ ·) by
        unfold unword; rw [if_neg hne, if_neg ht, List.drop_zero]; simp)
      have e1 : (s.toList == [126]) = false := by rw [Lib.toList_data, beq_eq_false_iff_ne]; exact ht
      generalize unword s.data.toList = r at *
      obtain ⟨i0, hi0, hz0, hz1, hz2⟩ := info_parts Tryd.info5
      have HI0 := Lib.hid hi0; have HZ0 := Lib.hid hz0; have HZ1 := Lib.hid hz1; have HZ2 := Lib.hid hz2
      clear hi0 hz0 hz1 hz2 h0 hne ht
      go_enter Tryd.func84, Tryd.ntmps84
      go_wp2_with (at_make; refine wpList_make_own _ rfl _ _ 34 rfl w.heap.size 5 i0 (.int .u8 0) 1 Tryd.underlying34 HI0.out HZ0.out HZ1.out _ _ _ s.size rfl rfl (by omega) (by rw [HZ2.out]; omega) (by unfold maxLen; omega) (Nat.le_refl _) ?_; intro w0 hown0 hg0; have HO0 := Lib.hid hown0; clear hown0)
      have hb0 : Below w.heap.size w w0 := (Below.refl _ _).grown hg0 (Nat.le_refl _) (by intro k hk; cases hk)
      clear hg0
      go_loopw [4, 5] (fun v i wr => ∃ (k : Nat) (acc : List UInt8), k ≤ s.size ∧ i = .int .i64 k ∧ acc.length ≤ k ∧ Hid (r = (unwL (s.data.toList.drop k)).map (acc ++ ·)) ∧ Hid (wr.ownsRow w.heap.size 5 1 v acc.length (Lib.byteCells acc)) ∧ Below w.heap.size w wr) (fun _ i _ => s.size - (intOf i).toNat)
      case atStart => exact ⟨0, [], by omega, rfl, by simp, HR.out, HO0.out, hb0⟩
      case round =>
        clear HR HO0 hb0
        obtain ⟨k, acc, hk, rfl, hal, HA, hown, hbe⟩ := hrel
        have hbs := hbe.size
        by_cases hlt : k < s.size
        · by_cases h37 : s[k] = 37
          · have b37 : ((s[k].toNat : Int) == 37) = true := by rw [h37]; rfl
            cases he : escD (s.data.toList.drop (k + 1))
            · have HE := fun w => Lib.hid (escaped_none he hs w)
              have HN := Lib.hid (unw_step_bad hlt HA.out h37 he)
              clear he h37 HA
              go_wp2_with (go_at_call 100; refine (HE _).out.mono ?_; rintro e w' ⟨rfl, rfl⟩)
              go_ret2
              exact ⟨by rw [HN.out]; rfl, hbe⟩
            · rename_i c
              have HE := fun w => Lib.hid (escaped_some he hs w)
              obtain ⟨h3, hn⟩ := unw_step_esc hlt HA.out h37 he
              have HN := Lib.hid hn
              clear he h37 HA hn
              go_wp2_with (first
                | (go_at_call 100; refine (HE _).out.mono ?_; rintro e w' ⟨rfl, rfl⟩)
                | (at_builtin; refine wpList_append_own _ rfl (.tmp 42) (.tmp 44) 34 rfl w.heap.size 5 i0 (.int .u8 0) 1 1 Tryd.underlying34 HI0.out HZ0.out HZ1.out HZ2.out rfl (by decide) _ _ _ rfl (hown.out.alloc _) ⟨wr.heap.size, 0, none⟩ 1 1 [.int .u8 (c.toNat : Int)] rfl rfl (cell_one_new _ _ _) (by intro u hu; simp at hu; subst hu; rfl) (by unfold maxLen; omega) (by omega) (by simp; omega) ?_; intro v' w1 hown1 hg1 _; have HO1 := Lib.hid hown1; clear hown1))
              go_roundw
              case rel =>
                refine ⟨k + 3, acc ++ [c], by omega, by go_num, by simp; omega, HN.out, ?_, (hbe.alloc hbs _).grown hg1 (by simp; omega) (own_base hown.out)⟩
                have := HO1.out
                show World.ownsRow _ _ _ _ _ _ _
                simpa [Lib.byteCells_append, Lib.byteCells, Nat.add_assoc] using this
              case measure => simp [intOf]; omega
          · have b37 : ((s[k].toNat : Int) == 37) = false := by
              rw [beq_eq_false_iff_ne]; intro h; exact h37 (UInt8.toNat_inj.1 (by show s[k].toNat = 37; omega))
            cases hp : plnB (s[k].toNat)
            · have HN := Lib.hid (unw_step_other hlt HA.out hp h37)
              have HP := Lib.hid hp; clear hp h37 HA
              go_wp2_with (go_at_call 71; refine (plain_any _ _).mono ?_; rintro e w' ⟨rfl, rfl⟩; rw [HP.out])
              go_ret2
              exact ⟨by rw [HN.out]; rfl, hbe⟩
            · have HN := Lib.hid (unw_step_plain hlt HA.out hp)
              have HP := Lib.hid hp; clear hp h37 HA
              go_wp2_with (first
                | (go_at_call 71; refine (plain_any _ _).mono ?_; rintro e w' ⟨rfl, rfl⟩; rw [HP.out])
                | (at_builtin; refine wpList_append_own _ rfl (.tmp 42) (.tmp 44) 34 rfl w.heap.size 5 i0 (.int .u8 0) 1 1 Tryd.underlying34 HI0.out HZ0.out HZ1.out HZ2.out rfl (by decide) _ _ _ rfl (hown.out.alloc _) ⟨wr.heap.size, 0, none⟩ 1 1 [.int .u8 (s[k].toNat : Int)] rfl rfl (cell_one_new _ _ _) (by intro u hu; simp at hu; subst hu; rfl) (by unfold maxLen; omega) (by omega) (by simp; omega) ?_; intro v' w1 hown1 hg1 _; have HO1 := Lib.hid hown1; clear hown1))
              go_roundw
              case rel =>
                refine ⟨k + 1, acc ++ [s[k]], by omega, by go_num, by simp; omega, HN.out, ?_, (hbe.alloc hbs _).grown hg1 (by simp; omega) (own_base hown.out)⟩
                have := HO1.out
                show World.ownsRow _ _ _ _ _ _ _
                simpa [Lib.byteCells_append, Lib.byteCells, Nat.add_assoc] using this
              case measure => simp [intOf]; omega
        · obtain rfl : k = s.size := by omega
          have HN := Lib.hid (unw_end HA.out)
          have hcv := run_string_own hown.out
          clear HA
          go_wp2_with fail
          go_ret2
          exact ⟨by rw [HN.out]; rfl, hbe⟩
end Go.Proofs.YtmafefdchglpbaaDoor
