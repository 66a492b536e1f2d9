/-
  Versions: the walks of the functions that read and write (conditions: strings and keys of at most 100000 bytes).
-/
import Derived.Test.YtceeilojcifgeaaGreatDoorVerA
namespace Go.Proofs.YtceeilojcifgeaaGreatDoor
open Go.RowKit

theorem isI_or (c : UInt8) : isI c = ((isL c || isD c) || ((c.toNat : Int) == 45)) := by
  rw [Bool.eq_iff_iff, isI_iff, Bool.or_eq_true, Bool.or_eq_true, beq_iff_eq, or_assoc, show (c.toNat = 45) ↔ ((c.toNat : Int) = 45) by omega]
set_option maxHeartbeats 400000 in
theorem letter_any (c : UInt8) (w : World) : Calls Tryz.prog 95 #[.int .u8 c.toNat] w fun e w' => e = .returned (.bool (isL c)) ∧ w = w' := by
  rw [isL_and]
  by_cases h1 : 97 ≤ c.toNat
  · have d1 : decide (97 ≤ (c.toNat : Int)) = true := by simp; omega
    by_cases h2 : c.toNat ≤ 122
    · have d2 : decide ((c.toNat : Int) ≤ 122) = true := by simp; omega
      go_enter Tryz.func95, Tryz.ntmps95
      go_wp2
      go_ret
      exact ⟨ret_boolV (by rw [d1, d2]; rfl), rfl⟩
    · have d2 : decide ((c.toNat : Int) ≤ 122) = false := by simp; omega
      have d3 : decide (65 ≤ (c.toNat : Int)) = true := by simp; omega
      go_enter Tryz.func95, Tryz.ntmps95
      go_wp2
      go_ret
      exact ⟨ret_boolV (by rw [d1, d2, d3]; rfl), rfl⟩
  · have d1 : decide (97 ≤ (c.toNat : Int)) = false := by simp; omega
    by_cases h3 : 65 ≤ c.toNat
    · have d3 : decide (65 ≤ (c.toNat : Int)) = true := by simp; omega
      go_enter Tryz.func95, Tryz.ntmps95
      go_wp2
      go_ret
      exact ⟨ret_boolV (by rw [d1, d3]; rfl), rfl⟩
    · have d3 : decide (65 ≤ (c.toNat : Int)) = false := by simp; omega
      go_enter Tryz.func95, Tryz.ntmps95
      go_wp2
      go_ret
      exact ⟨ret_boolV (by rw [d1, d3]; rfl), rfl⟩
def notDV (c : UInt8) : Bool := !isD c
set_option maxHeartbeats 400000 in
theorem notDigit_any (c : UInt8) (w : World) : Calls Tryz.prog 94 #[.int .u8 c.toNat] w fun e w' => e = .returned (.bool (notDV c)) ∧ w = w' := by
  have HC := Lib.hid (fun w => digit_any c w)
  have HX := Lib.hid (show notDV c = !isD c from rfl)
  obtain ⟨b, hb⟩ : ∃ b, isD c = b := ⟨_, rfl⟩
  rw [hb] at HC HX
  clear hb
  cases b
  all_goals
    go_enter Tryz.func94, Tryz.ntmps94
    go_wp2_with fail
    refine (HC.out _).mono ?_
    rintro e w' ⟨rfl, rfl⟩
    go_wp2_with fail
    go_ret
    exact ⟨ret_boolV (by rw [HX.out]; rfl), rfl⟩
set_option maxHeartbeats 400000 in
theorem identifying_any (c : UInt8) (w : World) : Calls Tryz.prog 92 #[.int .u8 c.toNat] w fun e w' => e = .returned (.bool (isI c)) ∧ w = w' := by
  have HC := Lib.hid (fun w => digit_any c w)
  have HL := Lib.hid (fun w => letter_any c w)
  have HX := Lib.hid (isI_or c)
  obtain ⟨b, hb⟩ : ∃ b, isD c = b := ⟨_, rfl⟩
  obtain ⟨a, ha⟩ : ∃ a, isL c = a := ⟨_, rfl⟩
  rw [hb] at HC HX
  rw [ha] at HL HX
  clear hb ha
  cases a
  · cases b
    · go_enter Tryz.func92, Tryz.ntmps92
      go_wp2_with (first | (go_at_call 95; refine (HL.out _).mono ?_; rintro e w' ⟨rfl, rfl⟩) | (go_at_call 60; refine (HC.out _).mono ?_; rintro e w' ⟨rfl, rfl⟩))
      go_ret
      exact ⟨ret_boolV (by rw [HX.out]; rfl), rfl⟩
    · go_enter Tryz.func92, Tryz.ntmps92
      go_wp2_with (first | (go_at_call 95; refine (HL.out _).mono ?_; rintro e w' ⟨rfl, rfl⟩) | (go_at_call 60; refine (HC.out _).mono ?_; rintro e w' ⟨rfl, rfl⟩))
      go_ret
      exact ⟨ret_boolV (by rw [HX.out]; rfl), rfl⟩
  · go_enter Tryz.func92, Tryz.ntmps92
    go_wp2_with (first | (go_at_call 95; refine (HL.out _).mono ?_; rintro e w' ⟨rfl, rfl⟩))
    go_ret
    exact ⟨ret_boolV (by rw [HX.out]; rfl), rfl⟩
/-- bytes as a string -/
def bs (l : BL) : ByteArray := ⟨l.toArray⟩
theorem bs_data (l : BL) : (bs l).data.toList = l := by unfold bs; simp
theorem bs_of (s : ByteArray) : bs s.data.toList = s := by unfold bs; cases s; simp
theorem bs_size (l : BL) : (bs l).size = l.length := by rw [Lib.size_eq, bs_data]
theorem bs_inj {a b : BL} (h : bs a = bs b) : a = b := by rw [← bs_data a, ← bs_data b, h]
theorem bs_extract (l : BL) (i j : Nat) : (bs l).extract i j = bs ((l.drop i).take (j - i)) := by
  rw [← bs_of ((bs l).extract i j), ByteArray.data_extract, Array.toList_extract, List.extract_eq_take_drop, bs_data]
theorem bs_take (l : BL) (n : Nat) : (bs l).extract 0 n = bs (l.take n) := by rw [bs_extract, List.drop_zero, Nat.sub_zero]
theorem bs_drop (l : BL) (n : Nat) : (bs l).extract n (bs l).size = bs (l.drop n) := by
  rw [bs_extract, bs_size]; congr 1; exact List.take_of_length_le (by simp)
theorem bs_get (l : BL) (i : Nat) (h : i < (bs l).size) : (bs l)[i] = l[i]'(by rw [← bs_size]; exact h) := by
  show (bs l).data[i] = _
  simp [bs]
theorem bs_facts (l : BL) : ∃ r : ByteArray, bs l = r ∧ (∀ (i : Nat) (hi : i < r.size) (h2 : i < l.length), r[i] = l[i]) ∧ r.size = l.length ∧ (∀ n, r.extract 0 n = bs (l.take n)) ∧ (∀ n, r.extract n r.size = bs (l.drop n)) :=
  ⟨bs l, rfl, fun i hi _ => bs_get l i hi, bs_size l, bs_take l, bs_drop l⟩
theorem extract_fullV (r : ByteArray) : r.extract 0 r.size = r := by simp
theorem extract_endV (r : ByteArray) : r.extract r.size r.size = ByteArray.empty := by simp
theorem tw_at {p : UInt8 → Bool} {l : BL} {k : Nat} (h1 : ∀ c ∈ l.take k, p c = true) (h2 : ∀ h : k < l.length, p l[k] = false) : l.takeWhile p = l.take k ∧ l.dropWhile p = l.drop k := by
  have := tw_app p (l.take k) (l.drop k) h1 (fun c r e => by
    have hk : k < l.length := by
      rcases Nat.lt_or_ge k l.length with h | h
      · exact h
      · rw [List.drop_of_length_le h] at e; cases e
    rw [List.drop_eq_getElem_cons hk] at e; injection e with e1 e2; rw [← e1]; exact h2 hk)
  rwa [List.take_append_drop] at this
theorem all_succ {p : UInt8 → Bool} {l : BL} {k : Nat} (h : k < l.length) (h1 : ∀ c ∈ l.take k, p c = true) (h2 : p l[k] = true) : ∀ c ∈ l.take (k + 1), p c = true := by
  intro c hc
  rw [List.take_succ_eq_append_getElem h] at hc
  rcases List.mem_append.1 hc with hc | hc
  · exact h1 c hc
  · rw [List.mem_singleton.1 hc]; exact h2
set_option maxRecDepth 100000 in
set_option maxHeartbeats 1000000 in
theorem takeX_digit (B b : Nat) (l k : BL) (w : World) (h : Rd B w b (bs l) k) (hl : l.length ≤ 100000) :
    Calls Tryz.prog 62 #[.pointer (some ⟨b, 0, none⟩), .func (.func 60) #[] #[]] w fun e w' => e = .returned (.string (bs (l.takeWhile isD))) ∧ w' = w.setCell ⟨b, 0, none⟩ (.string (bs (l.dropWhile isD))) := by
  have h0 := h.rest
  obtain ⟨r, hr, hg, hs, ht, hd⟩ := bs_facts l
  have HG := Lib.hid hg; have HS := Lib.hid hs; have HT := Lib.hid ht; have HD := Lib.hid hd
  have hsz : r.size ≤ 100000 := by rw [hs]; exact hl
  rw [hr] at h0
  clear hg hs ht hd
  have HR := Lib.hid hr
  have hf0 : w.frozen? ⟨b, 0, none⟩ = false := by obtain ⟨_, sp, cap, h, _⟩ := h; exact frozen_of_row w b 0 _ _ h
  clear h hr
  go_enter Tryz.func62, Tryz.ntmps62
  go_wp2_with fail
  go_loop [5] (fun i => ∃ j : Nat, j ≤ r.size ∧ i = .int .i64 j ∧ Hid (∀ c ∈ l.take j, isD c = true)) (fun i => r.size - (intOf i).toNat)
  case atStart => exact ⟨0, Nat.zero_le _, rfl, fun c hc => by simp at hc⟩
  case round =>
    obtain ⟨j, hj, rfl, HA⟩ := hrel
    have fin : ∀ (hq : ∀ h : j < l.length, isD l[j] = false), Hid (r.extract 0 j = bs (l.takeWhile isD) ∧ r.extract j r.size = bs (l.dropWhile isD)) := fun hq => by
      obtain ⟨e1, e2⟩ := tw_at HA.out hq
      show _ ∧ _
      rw [HT.out, HD.out, e1, e2]; exact ⟨rfl, rfl⟩
    have FIN := Lib.hid fin; clear fin
    by_cases hlt : j < r.size
    · have hjl : j < l.length := by have := HS.out; omega
      have hd : decide ((j : Int) < (r.size : Int)) = true := by simp; omega
      have q0 : (0 : Int) ≤ (j : Int) := by omega
      have q1 : (j : Int) < (r.size : Int) := by omega
      have HC := Lib.hid (fun w => digit_any (r[j]) w)
      have HPQ := Lib.hid (show isD (r[j]) = isD l[j] by rw [HG.out j hlt hjl])
      have hget : ((isD (r[j]) = true) ∨ (isD (r[j]) = false)) := by cases isD (r[j]) <;> simp
      rcases hget with hp | hp
      · rw [hp] at HC HPQ
        have HX := Lib.hid (all_succ hjl HA.out HPQ.out.symm)
        clear hp
        go_wp2_with (go_at_call 60; refine (HC.out _).mono ?_; rintro e w' ⟨rfl, rfl⟩)
        go_round
        case rel => exact ⟨j + 1, by omega, by go_num, HX⟩
        case measure => simp [intOf]; omega
      · rw [hp] at HC HPQ
        have HX := FIN.out (fun _ => HPQ.out.symm)
        clear hp FIN
        have q2 : (j : Int) ≤ (r.size : Int) := by omega
        go_wp2_with (go_at_call 60; refine (HC.out _).mono ?_; rintro e w' ⟨rfl, rfl⟩)
        go_ret
        exact ⟨by rw [HX.out.1]; rfl, by rw [HX.out.2]⟩
    · have hd : decide ((j : Int) < (r.size : Int)) = false := by simp; omega
      obtain rfl : j = r.size := by omega
      have HX := Lib.hid (show r = bs (l.takeWhile isD) ∧ ByteArray.empty = bs (l.dropWhile isD) by
        have := (FIN.out (fun h => by have := HS.out; omega)).out
        rwa [extract_fullV, extract_endV] at this)
      have q0 : (0 : Int) ≤ (r.size : Int) := by omega
      have q2 : (r.size : Int) ≤ (r.size : Int) := by omega
      clear FIN
      go_wp2_with fail
      go_ret
      exact ⟨by rw [HX.out.1]; rfl, by rw [HX.out.2]⟩
theorem take_digit (B b : Nat) (l k : BL) (w : World) (h : Rd B w b (bs l) k) (hl : l.length ≤ 100000) :
    Calls Tryz.prog 62 #[.pointer (some ⟨b, 0, none⟩), .func (.func 60) #[] #[]] w fun e w' => e = .returned (.string (bs (l.takeWhile isD))) ∧ Rd B w' b (bs (l.dropWhile isD)) k ∧ Below B w w' := by
  refine (takeX_digit B b l k w h hl).mono ?_
  rintro e w' ⟨rfl, rfl⟩
  exact ⟨rfl, h.set _, (Below.refl _ _).setCell h.1 _⟩
set_option maxRecDepth 100000 in
set_option maxHeartbeats 1000000 in
theorem takeX_notDigit (B b : Nat) (l k : BL) (w : World) (h : Rd B w b (bs l) k) (hl : l.length ≤ 100000) :
    Calls Tryz.prog 62 #[.pointer (some ⟨b, 0, none⟩), .func (.func 94) #[] #[]] w fun e w' => e = .returned (.string (bs (l.takeWhile notDV))) ∧ w' = w.setCell ⟨b, 0, none⟩ (.string (bs (l.dropWhile notDV))) := by
  have h0 := h.rest
  obtain ⟨r, hr, hg, hs, ht, hd⟩ := bs_facts l
  have HG := Lib.hid hg; have HS := Lib.hid hs; have HT := Lib.hid ht; have HD := Lib.hid hd
  have hsz : r.size ≤ 100000 := by rw [hs]; exact hl
  rw [hr] at h0
  clear hg hs ht hd
  have HR := Lib.hid hr
  have hf0 : w.frozen? ⟨b, 0, none⟩ = false := by obtain ⟨_, sp, cap, h, _⟩ := h; exact frozen_of_row w b 0 _ _ h
  clear h hr
  go_enter Tryz.func62, Tryz.ntmps62
  go_wp2_with fail
  go_loop [5] (fun i => ∃ j : Nat, j ≤ r.size ∧ i = .int .i64 j ∧ Hid (∀ c ∈ l.take j, notDV c = true)) (fun i => r.size - (intOf i).toNat)
  case atStart => exact ⟨0, Nat.zero_le _, rfl, fun c hc => by simp at hc⟩
  case round =>
    obtain ⟨j, hj, rfl, HA⟩ := hrel
    have fin : ∀ (hq : ∀ h : j < l.length, notDV l[j] = false), Hid (r.extract 0 j = bs (l.takeWhile notDV) ∧ r.extract j r.size = bs (l.dropWhile notDV)) := fun hq => by
      obtain ⟨e1, e2⟩ := tw_at HA.out hq
      show _ ∧ _
      rw [HT.out, HD.out, e1, e2]; exact ⟨rfl, rfl⟩
    have FIN := Lib.hid fin; clear fin
    by_cases hlt : j < r.size
    · have hjl : j < l.length := by have := HS.out; omega
      have hd : decide ((j : Int) < (r.size : Int)) = true := by simp; omega
      have q0 : (0 : Int) ≤ (j : Int) := by omega
      have q1 : (j : Int) < (r.size : Int) := by omega
      have HC := Lib.hid (fun w => notDigit_any (r[j]) w)
      have HPQ := Lib.hid (show notDV (r[j]) = notDV l[j] by rw [HG.out j hlt hjl])
      have hget : ((notDV (r[j]) = true) ∨ (notDV (r[j]) = false)) := by cases notDV (r[j]) <;> simp
      rcases hget with hp | hp
      · rw [hp] at HC HPQ
        have HX := Lib.hid (all_succ hjl HA.out HPQ.out.symm)
        clear hp
        go_wp2_with (go_at_call 94; refine (HC.out _).mono ?_; rintro e w' ⟨rfl, rfl⟩)
        go_round
        case rel => exact ⟨j + 1, by omega, by go_num, HX⟩
        case measure => simp [intOf]; omega
      · rw [hp] at HC HPQ
        have HX := FIN.out (fun _ => HPQ.out.symm)
        clear hp FIN
        have q2 : (j : Int) ≤ (r.size : Int) := by omega
        go_wp2_with (go_at_call 94; refine (HC.out _).mono ?_; rintro e w' ⟨rfl, rfl⟩)
        go_ret
        exact ⟨by rw [HX.out.1]; rfl, by rw [HX.out.2]⟩
    · have hd : decide ((j : Int) < (r.size : Int)) = false := by simp; omega
      obtain rfl : j = r.size := by omega
      have HX := Lib.hid (show r = bs (l.takeWhile notDV) ∧ ByteArray.empty = bs (l.dropWhile notDV) by
        have := (FIN.out (fun h => by have := HS.out; omega)).out
        rwa [extract_fullV, extract_endV] at this)
      have q0 : (0 : Int) ≤ (r.size : Int) := by omega
      have q2 : (r.size : Int) ≤ (r.size : Int) := by omega
      clear FIN
      go_wp2_with fail
      go_ret
      exact ⟨by rw [HX.out.1]; rfl, by rw [HX.out.2]⟩
theorem take_notDigit (B b : Nat) (l k : BL) (w : World) (h : Rd B w b (bs l) k) (hl : l.length ≤ 100000) :
    Calls Tryz.prog 62 #[.pointer (some ⟨b, 0, none⟩), .func (.func 94) #[] #[]] w fun e w' => e = .returned (.string (bs (l.takeWhile notDV))) ∧ Rd B w' b (bs (l.dropWhile notDV)) k ∧ Below B w w' := by
  refine (takeX_notDigit B b l k w h hl).mono ?_
  rintro e w' ⟨rfl, rfl⟩
  exact ⟨rfl, h.set _, (Below.refl _ _).setCell h.1 _⟩
set_option maxRecDepth 100000 in
set_option maxHeartbeats 1000000 in
theorem takeX_identifying (B b : Nat) (l k : BL) (w : World) (h : Rd B w b (bs l) k) (hl : l.length ≤ 100000) :
    Calls Tryz.prog 62 #[.pointer (some ⟨b, 0, none⟩), .func (.func 92) #[] #[]] w fun e w' => e = .returned (.string (bs (l.takeWhile isI))) ∧ w' = w.setCell ⟨b, 0, none⟩ (.string (bs (l.dropWhile isI))) := by
  have h0 := h.rest
  obtain ⟨r, hr, hg, hs, ht, hd⟩ := bs_facts l
  have HG := Lib.hid hg; have HS := Lib.hid hs; have HT := Lib.hid ht; have HD := Lib.hid hd
  have hsz : r.size ≤ 100000 := by rw [hs]; exact hl
  rw [hr] at h0
  clear hg hs ht hd
  have HR := Lib.hid hr
  have hf0 : w.frozen? ⟨b, 0, none⟩ = false := by obtain ⟨_, sp, cap, h, _⟩ := h; exact frozen_of_row w b 0 _ _ h
  clear h hr
  go_enter Tryz.func62, Tryz.ntmps62
  go_wp2_with fail
  go_loop [5] (fun i => ∃ j : Nat, j ≤ r.size ∧ i = .int .i64 j ∧ Hid (∀ c ∈ l.take j, isI c = true)) (fun i => r.size - (intOf i).toNat)
  case atStart => exact ⟨0, Nat.zero_le _, rfl, fun c hc => by simp at hc⟩
  case round =>
    obtain ⟨j, hj, rfl, HA⟩ := hrel
    have fin : ∀ (hq : ∀ h : j < l.length, isI l[j] = false), Hid (r.extract 0 j = bs (l.takeWhile isI) ∧ r.extract j r.size = bs (l.dropWhile isI)) := fun hq => by
      obtain ⟨e1, e2⟩ := tw_at HA.out hq
      show _ ∧ _
      rw [HT.out, HD.out, e1, e2]; exact ⟨rfl, rfl⟩
    have FIN := Lib.hid fin; clear fin
    by_cases hlt : j < r.size
    · have hjl : j < l.length := by have := HS.out; omega
      have hd : decide ((j : Int) < (r.size : Int)) = true := by simp; omega
      have q0 : (0 : Int) ≤ (j : Int) := by omega
      have q1 : (j : Int) < (r.size : Int) := by omega
      have HC := Lib.hid (fun w => identifying_any (r[j]) w)
      have HPQ := Lib.hid (show isI (r[j]) = isI l[j] by rw [HG.out j hlt hjl])
      have hget : ((isI (r[j]) = true) ∨ (isI (r[j]) = false)) := by cases isI (r[j]) <;> simp
      rcases hget with hp | hp
      · rw [hp] at HC HPQ
        have HX := Lib.hid (all_succ hjl HA.out HPQ.out.symm)
        clear hp
        go_wp2_with (go_at_call 92; refine (HC.out _).mono ?_; rintro e w' ⟨rfl, rfl⟩)
        go_round
        case rel => exact ⟨j + 1, by omega, by go_num, HX⟩
        case measure => simp [intOf]; omega
      · rw [hp] at HC HPQ
        have HX := FIN.out (fun _ => HPQ.out.symm)
        clear hp FIN
        have q2 : (j : Int) ≤ (r.size : Int) := by omega
        go_wp2_with (go_at_call 92; refine (HC.out _).mono ?_; rintro e w' ⟨rfl, rfl⟩)
        go_ret
        exact ⟨by rw [HX.out.1]; rfl, by rw [HX.out.2]⟩
    · have hd : decide ((j : Int) < (r.size : Int)) = false := by simp; omega
      obtain rfl : j = r.size := by omega
      have HX := Lib.hid (show r = bs (l.takeWhile isI) ∧ ByteArray.empty = bs (l.dropWhile isI) by
        have := (FIN.out (fun h => by have := HS.out; omega)).out
        rwa [extract_fullV, extract_endV] at this)
      have q0 : (0 : Int) ≤ (r.size : Int) := by omega
      have q2 : (r.size : Int) ≤ (r.size : Int) := by omega
      clear FIN
      go_wp2_with fail
      go_ret
      exact ⟨by rw [HX.out.1]; rfl, by rw [HX.out.2]⟩
theorem take_identifying (B b : Nat) (l k : BL) (w : World) (h : Rd B w b (bs l) k) (hl : l.length ≤ 100000) :
    Calls Tryz.prog 62 #[.pointer (some ⟨b, 0, none⟩), .func (.func 92) #[] #[]] w fun e w' => e = .returned (.string (bs (l.takeWhile isI))) ∧ Rd B w' b (bs (l.dropWhile isI)) k ∧ Below B w w' := by
  refine (takeX_identifying B b l k w h hl).mono ?_
  rintro e w' ⟨rfl, rfl⟩
  exact ⟨rfl, h.set _, (Below.refl _ _).setCell h.1 _⟩
end Go.Proofs.YtceeilojcifgeaaGreatDoor
