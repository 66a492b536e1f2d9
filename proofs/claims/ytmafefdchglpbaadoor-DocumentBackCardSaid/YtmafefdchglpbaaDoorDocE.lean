/-
  The walks of document.checkLines and of what it calls: the first error of lines that does not depend on their size (condition: the lines read as lists of words).
-/
import Derived.Test.YtmafefdchglpbaaDoorDocM
namespace Go.Proofs.YtmafefdchglpbaaDoor
open Go.RowKit

def IdxRes (l : List ByteArray) (w : World) (e : Ending) (w' : World) : Prop := ∃ i : Int, e = .returned (.int .i64 i) ∧ Hid (decide (0 ≤ i) = l.any lng) ∧ w = w'
theorem any_take_succ (l : List ByteArray) (k : Nat) (hk : k < l.length) (h : (l.take k).any lng = false) (hc : lng l[k] = false) : (l.take (k + 1)).any lng = false := by
  rw [List.take_succ_eq_append_getElem hk, List.any_append, h]; simp [hc]
theorem any_of (l : List ByteArray) (k : Nat) (hk : k < l.length) (hc : lng l[k] = true) : l.any lng = true := List.any_eq_true.2 ⟨l[k], List.getElem_mem _, hc⟩

set_option maxHeartbeats 1000000 in
theorem indexFunc_any (sp : Option Addr) (n cap : Nat) (l : List ByteArray) (w : World) (hl : StrsIn w w.heap.size sp n l) (hmax : n ≤ 9223372036854775807) :
    Calls Tryd.prog 85 #[.slice sp n cap, .func (.func 65) #[] #[]] w (IdxRes l w) := by
  have HL := Lib.hid hl; clear hl
  go_enter Tryd.func85, Tryd.ntmps85
  go_wp2_with fail
  go_loop [8] (fun i => ∃ k : Nat, k ≤ n ∧ i = .int .i64 k ∧ Hid ((l.take k).any lng = false)) (fun i => n - (intOf i).toNat)
  case atStart => exact ⟨0, by omega, rfl, by show _ = false; simp⟩
  case round =>
    obtain ⟨k, hk, rfl, HA⟩ := hrel
    by_cases hlt : k < n
    · obtain ⟨b, off, rfl, hb, hcell⟩ := HL.out.cells (by omega)
      have hk2 : k < l.length := by have := HL.out.len; omega
      have ck := hcell k hk2
      clear hcell
      have HN := Lib.hid (any_take_succ l k hk2 HA.out)
      have HY := Lib.hid (any_of l k hk2)
      have HD := Lib.hid (show lng l[k] = decide (32768 < (l[k]).size) from rfl)
      generalize l[k] = s at *
      cases hd : decide (32768 < s.size)
      · rw [hd] at HD
        have HD2 := Lib.hid hd; clear hd
        go_wp2_with (go_at_call 65; refine (tooLong_any _ _).mono ?_; rintro e w' ⟨rfl, rfl⟩; rw [HD2.out])
        go_round
        case rel => exact ⟨k + 1, by omega, by go_num, HN.out HD.out⟩
        case measure => simp [intOf]; omega
      · rw [hd] at HD
        have HD2 := Lib.hid hd; clear hd
        go_wp2_with (go_at_call 65; refine (tooLong_any _ _).mono ?_; rintro e w' ⟨rfl, rfl⟩; rw [HD2.out])
        go_ret
        exact ⟨(k : Int), rfl, by show _ = _; rw [HY.out HD.out]; simp, rfl⟩
    · obtain rfl : k = n := by omega
      go_wp2
      go_ret
      exact ⟨-1, rfl, by show _ = _; rw [List.take_of_length_le (by rw [HL.out.len]; exact Nat.le_refl _)] at HA; rw [HA.out]; rfl, rfl⟩
set_option maxHeartbeats 1000000 in
theorem containsFunc_any (sp : Option Addr) (n cap : Nat) (l : List ByteArray) (w : World) (hl : StrsIn w w.heap.size sp n l) (hmax : n ≤ 9223372036854775807) :
    Calls Tryd.prog 64 #[.slice sp n cap, .func (.func 65) #[] #[]] w fun e w' => e = .returned (.bool (l.any lng)) ∧ w = w' := by
  have HC := Lib.hid (indexFunc_any sp n cap l w hl hmax)
  clear hl
  go_enter Tryd.func64, Tryd.ntmps64
  go_wp2_with (go_at_call 85; refine HC.out.mono ?_; rintro e w' ⟨i, rfl, hi, rfl⟩)
  go_ret
  exact ⟨ret_bool hi.out, rfl⟩

theorem chk_many {ls : List Ln} (h : 1000 < ls.length) : chk (wordsOf ls) = 3 := by unfold chk; rw [if_pos (by rw [wordsOf_length]; exact h)]
theorem chk_few {ls : List Ln} (h : ¬ 1000 < ls.length) : chk (wordsOf ls) = firstBad (wordsOf ls) := by unfold chk; rw [if_neg (by rw [wordsOf_length]; exact h)]
theorem chkLine_zero {l : List ByteArray} (h : l.length = 0) : chkLine l = 1 := by unfold chkLine; rw [if_pos h]
theorem chkLine_wide {l : List ByteArray} (h : 120 < l.length) : chkLine l = 3 := by unfold chkLine; rw [if_neg (by omega), if_pos (.inl h)]
theorem chkLine_long {l : List ByteArray} (h0 : l.length ≠ 0) (h : l.any lng = true) : chkLine l = 3 := by unfold chkLine; rw [if_neg h0, if_pos (.inr h)]
theorem chkLine_good {l : List ByteArray} (h0 : l.length ≠ 0) (h1 : ¬ 120 < l.length) (h : l.any lng = false) : chkLine l = 0 := by
  unfold chkLine; rw [if_neg h0, if_neg (by rw [h]; simp; omega)]

set_option maxHeartbeats 1000000 in
theorem checkLines_any (pa : Option Addr) (np ncap : Nat) (ls : List Ln) (w : World) (hp : LinesIn w w.heap.size pa np ls) (hmax : np ≤ 9223372036854775807) (hmax2 : ∀ q ∈ ls, q.n ≤ 9223372036854775807) :
    Calls Tryd.prog 42 #[.slice pa np ncap] w fun e w' => e = .returned (.int .i64 (chk (wordsOf ls))) ∧ w = w' := by
  have HP := Lib.hid hp; have HM := Lib.hid hmax2; clear hp hmax2
  have HLEN := Lib.hid HP.out.len
  by_cases hbig : 1000 < np
  · have HC := Lib.hid (chk_many (ls := ls) (by rw [HLEN.out]; exact hbig))
    generalize chk (wordsOf ls) = r at *
    go_enter Tryd.func42, Tryd.ntmps42
    go_wp2
    go_ret
    exact ⟨ret_int (by rw [HC.out]; rfl), rfl⟩
  · have HC := Lib.hid (chk_few (ls := ls) (by rw [HLEN.out]; exact hbig))
    generalize chk (wordsOf ls) = r at *
    go_enter Tryd.func42, Tryd.ntmps42
    go_wp2_with fail
    go_loop [10] (fun i => ∃ k : Nat, k ≤ np ∧ i = .int .i64 k ∧ Hid (firstBad ((wordsOf ls).take k) = 0)) (fun i => np - (intOf i).toNat)
    case atStart => exact ⟨0, by omega, rfl, by show _ = _; simp [firstBad]⟩
    case round =>
      obtain ⟨k, hk, rfl, HA⟩ := hrel
      by_cases hlt : k < np
      · have hk2 : k < ls.length := by rw [HLEN.out]; exact hlt
        obtain ⟨pb, po, rfl, hpb, hcell⟩ := HP.out.cells (by omega)
        have ck : w.cell? ⟨pb, po + k, none⟩ = some (.slice ls[k].sp ls[k].n ls[k].cap) := hcell k hk2
        have HE := Lib.hid (HP.out.each _ (List.getElem_mem hk2))
        have hmx := HM.out _ (List.getElem_mem hk2)
        have hfb := firstBad_take (wordsOf ls) k (by rw [wordsOf_length]; exact hk2) HA.out
        rw [wordsOf_get ls k hk2] at hfb
        have HF := Lib.hid hfb
        have hl := HE.out.len
        clear hcell hfb
        generalize ls[k].sp = sp at *
        generalize ls[k].n = n at *
        generalize ls[k].cap = cap at *
        generalize ls[k].l = l at *
        have HLL := Lib.hid hl; clear hl
        by_cases h0 : n = 0
        · subst h0
          have HK := Lib.hid (chkLine_zero HLL.out)
          go_wp2_with fail
          go_ret
          exact ⟨ret_int (by rw [HC.out, HF.out.2 (by rw [HK.out]; decide), HK.out]; rfl), rfl⟩
        · have h0b : ((n : Int) == 0) = false := beq_eq_false_iff_ne.2 (by omega)
          by_cases h1 : 120 < n
          · have HK := Lib.hid (chkLine_wide (l := l) (by rw [HLL.out]; exact h1))
            clear h0
            go_wp2_with fail
            go_ret
            exact ⟨ret_int (by rw [HC.out, HF.out.2 (by rw [HK.out]; decide), HK.out]; rfl), rfl⟩
          · cases ha : l.any lng
            · have HK := Lib.hid (chkLine_good (l := l) (by rw [HLL.out]; exact h0) (by rw [HLL.out]; exact h1) ha)
              have HA2 := Lib.hid ha; clear ha h0
              go_wp2_with (go_at_call 64; refine (containsFunc_any _ _ _ l _ HE.out hmx).mono ?_; rintro e w' ⟨rfl, rfl⟩; rw [HA2.out])
              go_round
              case rel => exact ⟨k + 1, by omega, by go_num, HF.out.1 HK.out⟩
              case measure => simp [intOf]; omega
            · have HK := Lib.hid (chkLine_long (l := l) (by rw [HLL.out]; exact h0) ha)
              have HA2 := Lib.hid ha; clear ha h0
              go_wp2_with (go_at_call 64; refine (containsFunc_any _ _ _ l _ HE.out hmx).mono ?_; rintro e w' ⟨rfl, rfl⟩; rw [HA2.out])
              go_ret
              exact ⟨ret_int (by rw [HC.out, HF.out.2 (by rw [HK.out]; decide), HK.out]; rfl), rfl⟩
      · obtain rfl : k = np := by omega
        go_wp2
        go_ret
        exact ⟨ret_int (by rw [HC.out]; rw [List.take_of_length_le (by rw [wordsOf_length, HLEN.out]; exact Nat.le_refl _)] at HA; rw [HA.out]; rfl), rfl⟩
end Go.Proofs.YtmafefdchglpbaaDoor
