/-
  The walks of strings.CutSuffix at a line's end and of document.readLines (condition: a string of at most ten million bytes).
-/
import Derived.Test.YtmafefdchglpbaaDoorDecC
namespace Go.Proofs.YtmafefdchglpbaaDoor
open Go.RowKit

theorem one_list (x : UInt8) : (⟨#[x]⟩ : ByteArray).toList = [x] := by rw [Lib.toList_data]
theorem last_byte (s : ByteArray) (h : 0 < s.size) : (s.extract (s.size - 1) s.size).toList = [s[s.size - 1]] := by
  rw [Lib.toList_data, ByteArray.data_extract, Array.toList_extract, List.extract_eq_take_drop, show s.size - (s.size - 1) = 1 by omega]
  rw [List.drop_eq_getElem_cons (by simpa using (show s.size - 1 < s.size by omega))]
  rfl
/-- whether a string ends a line -/
def endN (s : ByteArray) : Bool := decide (s.data.toList.getLast? = some 10)
theorem endN_last (s : ByteArray) (h : 0 < s.size) : endN s = decide (s[s.size - 1] = 10) := by
  unfold endN
  rw [decide_eq_decide, List.getLast?_eq_getElem?, ← Lib.size_eq, List.getElem?_eq_getElem (by simpa using (show s.size - 1 < s.size by omega))]
  simp; rfl
set_option maxHeartbeats 400000 in
theorem hasSuffix_any (s : ByteArray) (w : World) (h : 0 < s.size) (hs : s.size ≤ 10000000) :
    Calls Tryd.prog 99 #[.string s, .string ⟨#[10]⟩] w fun e w' => e = .returned (.bool (endN s)) ∧ w = w' := by
  have hd : decide ((s.size : Int) ≥ 1) = true := by simp; omega
  have q0 : (0 : Int) ≤ (s.size : Int) - 1 := by omega
  have q1 : (s.size : Int) - 1 ≤ (s.size : Int) := by omega
  have q2 : ((s.size : Int) - 1).toNat = s.size - 1 := by omega
  have hl := last_byte s h
  have HE : Hid (endN s = (s[s.size - 1] == 10)) := by
    show _ = _
    rw [endN_last s h, Bool.eq_iff_iff]; simp
  go_enter Tryd.func99, Tryd.ntmps99
  go_wp2_with fail
  go_ret
  exact ⟨by rw [HE.out]; rfl, rfl⟩
set_option maxHeartbeats 400000 in
theorem cutSufLite_any (s : ByteArray) (w : World) (h : 0 < s.size) (hs : s.size ≤ 10000000) :
    Calls Tryd.prog 82 #[.string s, .string ⟨#[10]⟩] w fun e w' => e = .returned (if endN s = true then .tuple #[.string (s.extract 0 (s.size - 1)), .bool true] else .tuple #[.string s, .bool false]) ∧ w = w' := by
  have q0 : (0 : Int) ≤ (s.size : Int) - 1 := by omega
  have q1 : (s.size : Int) - 1 ≤ (s.size : Int) := by omega
  have q2 : ((s.size : Int) - 1).toNat = s.size - 1 := by omega
  have HP := Lib.hid (fun w => hasSuffix_any s w h hs)
  obtain ⟨b, hb⟩ : ∃ b, endN s = b := ⟨_, rfl⟩
  rw [hb] at HP ⊢
  clear hb
  cases b
  · rw [if_neg (by simp)]
    go_enter Tryd.func82, Tryd.ntmps82
    go_wp2_with fail
    refine (HP.out _).mono ?_
    rintro e w1 ⟨rfl, rfl⟩
    go_wp2_with fail
    go_ret2
    exact ⟨rfl, rfl⟩
  · rw [if_pos rfl]
    go_enter Tryd.func82, Tryd.ntmps82
    go_wp2_with fail
    refine (HP.out _).mono ?_
    rintro e w1 ⟨rfl, rfl⟩
    go_wp2_with fail
    go_ret2
    exact ⟨rfl, rfl⟩
set_option maxHeartbeats 400000 in
theorem cutSuf_any (s : ByteArray) (w : World) (h : 0 < s.size) (hs : s.size ≤ 10000000) :
    Calls Tryd.prog 61 #[.string s, .string ⟨#[10]⟩] w fun e w' => e = .returned (if endN s = true then .tuple #[.string (s.extract 0 (s.size - 1)), .bool true] else .tuple #[.string s, .bool false]) ∧ w = w' := by
  have HP := Lib.hid (fun w => cutSufLite_any s w h hs)
  clear h hs
  obtain ⟨b, hb⟩ : ∃ b, endN s = b := ⟨_, rfl⟩
  rw [hb] at HP ⊢
  clear hb
  cases b
  · rw [if_neg (by simp)] at HP ⊢
    go_enter Tryd.func61, Tryd.ntmps61
    go_wp2_with fail
    refine (HP.out _).mono ?_
    rintro e w1 ⟨rfl, rfl⟩
    go_wp2_with fail
    go_ret2
    exact ⟨rfl, rfl⟩
  · rw [if_pos rfl] at HP ⊢
    go_enter Tryd.func61, Tryd.ntmps61
    go_wp2_with fail
    refine (HP.out _).mono ?_
    rintro e w1 ⟨rfl, rfl⟩
    go_wp2_with fail
    go_ret2
    exact ⟨rfl, rfl⟩
/-- what a text's lines stand for -/
def rdoc (s : ByteArray) : Option (List (List ByteArray)) := if s.data.toList = [] then some [] else if endN s = true then unlL (pcs 10 (s.extract 0 (s.size - 1))) else none
set_option maxRecDepth 100000 in
set_option maxHeartbeats 1000000 in
theorem readLines_any (s : ByteArray) (w : World) (hs : s.size ≤ 10000000) :
    Calls Tryd.prog 41 #[.string s] w (ConvL w (rdoc s)) := by
  by_cases he : s.size = 0
  · have hl : s.data.toList = [] := List.eq_nil_of_length_eq_zero (by rw [← Lib.size_eq]; exact he)
    have hl2 : s.toList = [] := by rw [Lib.toList_data]; exact hl
    have HR : Hid (rdoc s = some []) := by show _ = _; unfold rdoc; rw [if_pos hl]
    clear hl he
    go_enter Tryd.func41, Tryd.ntmps41
    go_wp2_with fail
    go_ret2
    unfold ConvL
    rw [HR.out]
    exact ⟨none, 0, [], rfl, rfl, World.ownsRow_nil _ _ _ _, (fun q hq => by cases hq), Below.refl _ _⟩
  · have hne : s.data.toList ≠ [] := fun h => he (by rw [Lib.size_eq, h]; rfl)
    have hl : (s.toList == []) = false := by rw [Lib.toList_data, beq_eq_false_iff_ne]; exact hne
    have hl2 : ¬ s.toList = [] := by simpa using hl
    have HC := Lib.hid (fun w => cutSuf_any s w (by omega) hs)
    have HR : Hid (rdoc s = if endN s = true then unlL (pcs 10 (s.extract 0 (s.size - 1))) else none) := by show _ = _; unfold rdoc; rw [if_neg hne]
    obtain ⟨b, hb⟩ : ∃ b, endN s = b := ⟨_, rfl⟩
    rw [hb] at HC HR
    clear hb hne
    cases b
    · rw [if_neg (by simp)] at HC HR
      clear he
      go_enter Tryd.func41, Tryd.ntmps41
      go_wp2_with fail
      refine (HC.out _).mono ?_
      rintro e w1 ⟨rfl, rfl⟩
      go_wp2_with fail
      go_ret2
      exact convL_none HR.out rfl (Below.refl _ _)
    · rw [if_pos rfl] at HC HR
      have htz : (s.extract 0 (s.size - 1)).size ≤ 10000000 := by rw [ByteArray.size_extract]; omega
      obtain ⟨T, hT⟩ : ∃ T, s.extract 0 (s.size - 1) = T := ⟨_, rfl⟩
      rw [hT] at HC HR htz
      have HS := Lib.hid (fun w => split_anyS T 10 w htz)
      have hl3 := pcs_len 10 T
      have hc := pcs_cnt 10 T
      have hz := pcs_size 10 T
      have HV : Hid (∀ w1, w1 = w.alloc (.cells ((pcs 10 T).map Value.string).toArray 9) → Calls Tryd.prog 62 #[.slice (some ⟨w.heap.size, 0, none⟩) (Lib.countB T (oneB 10) + 1) (Lib.countB T (oneB 10) + 1), .func (.func 63) #[] #[]] w1 fun e w' => ∃ v b, e = .returned (.tuple #[v, .bool b]) ∧ ConvL w (unlL (pcs 10 T)) e w') := by
        rintro w1 rfl
        have hb := below_allocD w (.cells ((pcs 10 T).map Value.string).toArray 9)
        have hnew := heap_alloc_new w (.cells ((pcs 10 T).map Value.string).toArray 9)
        refine (convLs_any w.heap.size (Lib.countB T (oneB 10) + 1) (pcs 10 T) _ hl3 (by omega) (by simp) (fun j hj => ?_) (fun x hx => Nat.le_trans (hz x hx) (by omega))).mono fun e w' h => ?_
        · rw [cell_of_row _ w.heap.size j _ _ (0, 0) hnew]
          have : j < (pcs 10 T).length := by omega
          simp [this]
        · unfold ConvL at h ⊢
          cases hu : unlL (pcs 10 T) with
          | none =>
            rw [hu] at h
            obtain ⟨h1, h2⟩ := h
            exact ⟨_, _, h1, h1, hb.trans (h2.mono hb.size)⟩
          | some xs =>
            rw [hu] at h
            obtain ⟨sp, cap, ls, h0, h1, h2, h3, h4⟩ := h
            exact ⟨_, _, h1, sp, cap, ls, h0, h1, own_monoD h2 hb.size, (fun q hq => own_monoD (h3 q hq) hb.size), hb.trans (h4.mono hb.size)⟩
      clear hl3 hc hz hs hT htz he
      go_enter Tryd.func41, Tryd.ntmps41
      go_wp2_with fail
      refine (HC.out _).mono ?_
      rintro e w1 ⟨rfl, rfl⟩
      go_wp2_with fail
      refine (HS.out _).mono ?_
      rintro e w1 ⟨rfl, hw⟩
      have HW := Lib.hid hw
      clear hw
      go_wp2_with fail
      refine (HV.out w1 HW.out).mono ?_
      rintro e w2 ⟨v, b, rfl, hr⟩
      have HR2 := Lib.hid hr
      clear hr
      go_wp2_with fail
      go_ret2
      rw [HR.out]
      exact HR2.out
end Go.Proofs.YtmafefdchglpbaaDoor
