/-
  Versions: the walks of Trim at the ten digits (condition: strings of at most 100000 bytes).
-/
import Derived.Test.YtceeilojcifgeaaGreatDoorVerC
namespace Go.Proofs.YtceeilojcifgeaaGreatDoor
open Go.RowKit

/-- the row of a set of bytes -/
def asRow (f : Nat → Bool) : Array Value := ((List.range 256).map (fun j => Value.bool (f j))).toArray
theorem asRow_size (f : Nat → Bool) : (asRow f).size = 256 := by unfold asRow; simp
theorem asRow_get (f : Nat → Bool) (j : Nat) (h : j < 256) : (asRow f)[j]? = some (.bool (f j)) := by unfold asRow; simp [h]
theorem asRow_set (f : Nat → Bool) (i : Nat) : (asRow f).setIfInBounds i (.bool true) = asRow (fun j => decide (j = i) || f j) := by
  apply Array.ext
  · rw [Array.size_setIfInBounds, asRow_size, asRow_size]
  · intro j h1 h2
    rw [asRow_size] at h2
    rw [Array.getElem_setIfInBounds (by rw [asRow_size]; exact h2)]
    have e1 : (asRow f)[j]'(by rw [asRow_size]; exact h2) = .bool (f j) := by
      have := asRow_get f j h2; rw [Array.getElem?_eq_getElem (by rw [asRow_size]; exact h2)] at this; exact Option.some.inj this
    have e2 : (asRow (fun j => decide (j = i) || f j))[j]'(by rw [asRow_size]; exact h2) = .bool (decide (j = i) || f j) := by
      have := asRow_get (fun j => decide (j = i) || f j) j h2; rw [Array.getElem?_eq_getElem (by rw [asRow_size]; exact h2)] at this; exact Option.some.inj this
    rw [e2]
    split
    · rename_i h; subst h; simp
    · rename_i h; rw [e1, decide_eq_false (fun e => h e.symm)]; rfl
def dgS : Nat → Bool := fun j => decide (48 ≤ j) && decide (j < 58)
theorem dgS_isD (c : UInt8) : dgS c.toNat = isD c := by
  unfold dgS; rw [Bool.eq_iff_iff, isD_iff, Bool.and_eq_true, decide_eq_true_iff, decide_eq_true_iff]; omega
set_option maxRecDepth 100000 in
set_option maxHeartbeats 400000 in
theorem contains_any (b : Nat) (f : Nat → Bool) (T : TypeId) (c : UInt8) (w : World) (h : w.heap[b]? = some (.cells (asRow f) T (0, 0))) :
    Calls Tryz.prog 113 #[.pointer (some ⟨b, 0, none⟩), .int .u8 c.toNat] w fun e w' => e = .returned (.bool (f c.toNat)) ∧ w = w' := by
  have hlt : c.toNat < 256 := UInt8.toNat_lt c
  have hc : w.cell? ⟨b, c.toNat, none⟩ = some (.bool (f c.toNat)) := by
    rw [cell_of_row w b c.toNat _ _ _ h, asRow_get _ _ hlt]
  have q0 : (0 : Int) ≤ (c.toNat : Int) := by omega
  have q1 : (c.toNat : Int) < 256 := by omega
  clear h
  go_enter Tryz.func113, Tryz.ntmps113
  go_wp2_with fail
  go_ret
  exact ⟨by rfl, rfl⟩
set_option maxRecDepth 100000 in
set_option maxHeartbeats 1000000 in
theorem trimLA_any (b : Nat) (T : TypeId) (l : BL) (w : World) (h : w.heap[b]? = some (.cells (asRow dgS) T (0, 0))) (hl : l.length ≤ 100000) :
    Calls Tryz.prog 98 #[.string (bs l), .pointer (some ⟨b, 0, none⟩)] w fun e w' => e = .returned (.string (bs (l.dropWhile isD))) ∧ w = w' := by
  have HC := Lib.hid (fun c => contains_any b dgS T c w h)
  clear h
  go_enter Tryz.func98, Tryz.ntmps98
  go_wp2_with fail
  go_loop [0] (fun s => ∃ l' : BL, s = .string (bs l') ∧ l'.length ≤ 100000 ∧ Hid (l'.dropWhile isD = l.dropWhile isD)) (fun s => match s with | .string r => r.size | _ => 0)
  case atStart => exact ⟨l, rfl, hl, rfl⟩
  case round =>
    obtain ⟨l', rfl, hl', HZ⟩ := hrel
    cases l' with
    | nil =>
      have HX := Lib.hid (show bs (l.dropWhile isD) = ⟨#[]⟩ by rw [← HZ.out]; rfl)
      have e0 : (bs []) = ⟨#[]⟩ := rfl
      rw [e0]
      clear e0
      go_wp2_with fail
      go_ret
      exact ⟨by rw [HX.out]; rfl, rfl⟩
    | cons x l' =>
      obtain ⟨r, hr, hg, hs, -, hd⟩ := bs_facts (x :: l')
      have HD := Lib.hid (show r.extract 1 r.size = bs l' from hd 1)
      have hsz : 0 < r.size := by rw [hs]; simp
      have q0 : (0 : Int) ≤ (1 : Int) := by omega
      have q1 : (1 : Int) ≤ (r.size : Int) := by omega
      have q2 : (0 : Int) < (r.size : Int) := by omega
      have HG := Lib.hid (show r[0] = x from hg 0 hsz (by simp))
      have HSZ := Lib.hid hs
      have HR := Lib.hid hr
      have HCX := Lib.hid (HC.out (r[0]))
      have HQD := Lib.hid (show dgS (r[0]).toNat = isD x by rw [dgS_isD, HG.out])
      rw [hr]
      clear hg hs hr hd
      rw [HQD.out] at HCX
      obtain ⟨q, hq⟩ : ∃ q, isD x = q := ⟨_, rfl⟩
      have HQ := Lib.hid hq
      rw [hq] at HCX
      clear hq
      cases q
      · have HX := Lib.hid (show l.dropWhile isD = x :: l' by rw [← HZ.out, List.dropWhile_cons, HQ.out]; rfl)
        go_wp2_with fail
        refine HCX.out.mono ?_
        rintro e w' ⟨rfl, rfl⟩
        go_wp2_with fail
        go_ret
        exact ⟨by rw [HX.out, HR.out]; rfl, rfl⟩
      · have HX := Lib.hid (show l'.dropWhile isD = l.dropWhile isD by rw [← HZ.out, List.dropWhile_cons, HQ.out]; rfl)
        have hl2 : l'.length ≤ 100000 := by simp at hl'; omega
        go_wp2_with fail
        refine HCX.out.mono ?_
        rintro e w' ⟨rfl, rfl⟩
        go_wp2_with fail
        go_round
        case rel => exact ⟨l', by rw [← HD.out], hl2, HX.out⟩
        case measure => rw [HD.out]; show (bs l').size < r.size; rw [bs_size]; have := HSZ.out; simp at this; omega
/-- without the digits at its end -/
def dropR (l : BL) : BL := (l.reverse.dropWhile isD).reverse
theorem dropR_snoc (l : BL) (c : UInt8) : dropR (l ++ [c]) = if isD c = true then dropR l else l ++ [c] := by
  unfold dropR; rw [List.reverse_append, List.reverse_singleton, List.singleton_append, List.dropWhile_cons]; split <;> simp
set_option maxRecDepth 100000 in
set_option maxHeartbeats 1000000 in
theorem trimRA_any (b : Nat) (T : TypeId) (l : BL) (w : World) (h : w.heap[b]? = some (.cells (asRow dgS) T (0, 0))) (hl : l.length ≤ 100000) :
    Calls Tryz.prog 111 #[.string (bs l), .pointer (some ⟨b, 0, none⟩)] w fun e w' => e = .returned (.string (bs (dropR l))) ∧ w = w' := by
  have HC := Lib.hid (fun c => contains_any b dgS T c w h)
  clear h
  go_enter Tryz.func111, Tryz.ntmps111
  go_wp2_with fail
  go_loop [0] (fun s => ∃ l' : BL, s = .string (bs l') ∧ l'.length ≤ 100000 ∧ Hid (dropR l' = dropR l)) (fun s => match s with | .string r => r.size | _ => 0)
  case atStart => exact ⟨l, rfl, hl, rfl⟩
  case round =>
    obtain ⟨l', rfl, hl', HZ⟩ := hrel
    rcases List.eq_nil_or_concat l' with rfl | ⟨l', x, rfl⟩
    · have HX := Lib.hid (show bs (dropR l) = ⟨#[]⟩ by rw [← HZ.out]; rfl)
      have e0 : (bs []) = ⟨#[]⟩ := rfl
      rw [e0]
      clear e0
      go_wp2_with fail
      go_ret
      exact ⟨by rw [HX.out]; rfl, rfl⟩
    · rw [List.concat_eq_append] at hl' HZ ⊢
      obtain ⟨r, hr, hg, hs, ht, -⟩ := bs_facts (l' ++ [x])
      obtain ⟨n, hn⟩ : ∃ n, l'.length = n := ⟨_, rfl⟩
      have hs' : r.size = n + 1 := by rw [hs, List.length_append, hn]; rfl
      have HD := Lib.hid (show r.extract 0 n = bs l' by rw [ht n, ← hn, List.take_left])
      have hsz : n < r.size := by omega
      have q0 : (0 : Int) ≤ (n : Int) := by omega
      have q1 : (n : Int) ≤ (r.size : Int) := by omega
      have q2 : (n : Int) < (r.size : Int) := by omega
      have q3 : (r.size : Int) - 1 = (n : Int) := by omega
      have q4 : (0 : Int) < (r.size : Int) := by omega
      have q5 : r.size ≤ 100001 := by simp at hl'; omega
      have HG := Lib.hid (show r[n] = x by rw [hg n hsz (by simp; omega)]; simp [← hn])
      have HSZ := Lib.hid hs'
      have HN := Lib.hid hn
      have HR := Lib.hid hr
      have HCX := Lib.hid (HC.out (r[n]))
      have HQD := Lib.hid (show dgS (r[n]).toNat = isD x by rw [dgS_isD, HG.out])
      rw [hr]
      clear hg hs hr ht hs' hn
      rw [HQD.out] at HCX
      obtain ⟨q, hq⟩ : ∃ q, isD x = q := ⟨_, rfl⟩
      have HQ := Lib.hid hq
      rw [hq] at HCX
      clear hq
      cases q
      · have HX := Lib.hid (show dropR l = l' ++ [x] by rw [← HZ.out, dropR_snoc, HQ.out]; rfl)
        go_wp2_with fail
        refine HCX.out.mono ?_
        rintro e w' ⟨rfl, rfl⟩
        go_wp2_with fail
        go_ret
        exact ⟨by rw [HX.out, HR.out]; rfl, rfl⟩
      · have HX := Lib.hid (show dropR l' = dropR l by rw [← HZ.out, dropR_snoc, HQ.out]; rfl)
        have hl2 : l'.length ≤ 100000 := by simp at hl'; omega
        go_wp2_with fail
        refine HCX.out.mono ?_
        rintro e w' ⟨rfl, rfl⟩
        go_wp2_with fail
        go_round
        case rel => exact ⟨l', by rw [← HD.out], hl2, HX.out⟩
        case measure => rw [HD.out]; show (bs l').size < r.size; rw [bs_size]; have := HSZ.out; have := HN.out; omega
theorem digs10 (n : Nat) (h : n < 10) (w : World) : (Instr.index 9 (.string ⟨#[48, 49, 50, 51, 52, 53, 54, 55, 56, 57]⟩) (.int .i64 (n : Int))).run Tryz.prog w = .ok (.int .u8 ((48 + n : Nat) : Int)) w := by
  rcases (by omega : n = 0 ∨ n = 1 ∨ n = 2 ∨ n = 3 ∨ n = 4 ∨ n = 5 ∨ n = 6 ∨ n = 7 ∨ n = 8 ∨ n = 9) with rfl | rfl | rfl | rfl | rfl | rfl | rfl | rfl | rfl | rfl <;> kernel_rfl
end Go.Proofs.YtceeilojcifgeaaGreatDoor
