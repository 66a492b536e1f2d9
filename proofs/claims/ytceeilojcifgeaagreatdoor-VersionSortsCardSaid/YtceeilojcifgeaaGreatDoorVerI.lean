/-
  Versions: the walks of plainNumber, identifier, identifiers (conditions: at most 64 bytes to be read, keys of at most 1000 bytes).
-/
import Derived.Test.YtceeilojcifgeaaGreatDoorVerF
import Derived.Test.YtceeilojcifgeaaGreatDoorVerH
import Derived.Test.YtceeilojcifgeaaGreatDoorVerS
namespace Go.Proofs.YtceeilojcifgeaaGreatDoor
open Go.RowKit

/-- the end of a function that reads: o is what is left and the key; none: it has failed -/
def Post (B b : Nat) (w : World) (o : Option (BL × BL)) (e : Ending) (w' : World) : Prop := e = .returned (.bool o.isSome) ∧ Below B w w' ∧ ∀ p, o = some p → Rd B w' b (bs p.1) p.2
theorem Post.none {B b : Nat} {w : World} {e : Ending} {w' : World} (h : Post B b w none e w') : e = .returned (.bool false) ∧ Below B w w' := ⟨h.1, h.2.1⟩
theorem Post.some {B b : Nat} {w : World} {p : BL × BL} {e : Ending} {w' : World} (h : Post B b w (some p) e w') : e = .returned (.bool true) ∧ Below B w w' ∧ Rd B w' b (bs p.1) p.2 := ⟨h.1, h.2.1, h.2.2 p rfl⟩
theorem Post.mk0 {B b : Nat} {w : World} {o : Option (BL × BL)} {w' : World} (ho : o = Option.none) (hb : Below B w w') : Post B b w o (.returned (.bool false)) w' := by
  subst ho; exact ⟨rfl, hb, fun p h => by cases h⟩
theorem Post.mk1 {B b : Nat} {w : World} {o : Option (BL × BL)} {w' : World} {l k : BL} (ho : o = Option.some (l, k)) (hb : Below B w w') (hr : Rd B w' b (bs l) k) : Post B b w o (.returned (.bool true)) w' := by
  subst ho; exact ⟨rfl, hb, fun p h => by injection h with h; subst h; exact hr⟩
def pnumS (l k : BL) : Option (BL × BL) := if plainN (l.takeWhile isD) = true then some (l.dropWhile isD, k ++ num (l.takeWhile isD)) else none
def skS (c : UInt8) (l k : BL) : Option (BL × BL) := if skB c l = true then some (l.drop 1, k) else none
theorem tw_le (p : UInt8 → Bool) (l : BL) : (l.takeWhile p).length ≤ l.length := by have := tw_len p l; omega
theorem dw_le (p : UInt8 → Bool) (l : BL) : (l.dropWhile p).length ≤ l.length := by have := tw_len p l; omega
theorem num_length (l : BL) : (num l).length ≤ l.length + 1 := by have := zs_len l; unfold num; simp; omega
set_option maxRecDepth 100000 in
set_option maxHeartbeats 1000000 in
theorem plainNumber_any (B b : Nat) (l k : BL) (w : World) (h : Rd B w b (bs l) k) (hl : l.length ≤ 64) (hk : k.length ≤ 1000) :
    Calls Tryz.prog 54 #[.pointer (some ⟨b, 0, none⟩)] w (Post B b w (pnumS l k)) := by
  have t1 := tw_le isD l
  have HT := Lib.hid (take_digit B b l k w h (by omega))
  have HN := Lib.hid (fun w h => number_any B b (l.takeWhile isD) (bs (l.dropWhile isD)) k w h (by omega) (by omega))
  have HP := Lib.hid (fun w => plain_any (l.takeWhile isD) w (by omega))
  have HS := Lib.hid (show pnumS l k = if plainN (l.takeWhile isD) = true then some (l.dropWhile isD, k ++ num (l.takeWhile isD)) else none from rfl)
  generalize hs1 : bs (l.takeWhile isD) = s1 at *
  generalize hs2 : bs (l.dropWhile isD) = s2 at *
  have H2 := Lib.hid hs2
  generalize plainN (l.takeWhile isD) = q at *
  clear h t1 hs1 hs2
  go_enter Tryz.func54, Tryz.ntmps54
  go_wp2_with fail
  refine HT.out.mono ?_
  rintro e w1 ⟨rfl, r1, b1⟩
  have R1 := Lib.hid r1; have B1 := Lib.hid b1; clear r1 b1
  go_wp2_with fail
  refine (HN.out _ R1.out).mono ?_
  rintro e w2 ⟨rfl, r2, b2⟩
  have R2 := Lib.hid r2; have B2 := Lib.hid b2; clear r2 b2
  go_wp2_with fail
  refine (HP.out _).mono ?_
  rintro e w' ⟨rfl, rfl⟩
  cases q
  · have HX := Lib.hid (show pnumS l k = none from HS.out)
    go_wp2_with fail
    go_ret
    exact Post.mk0 HX.out (B1.out.trans B2.out)
  · have HX := Lib.hid (show pnumS l k = some (l.dropWhile isD, k ++ num (l.takeWhile isD)) from HS.out)
    go_wp2_with fail
    go_ret
    exact Post.mk1 HX.out (B1.out.trans B2.out) (by rw [H2.out]; exact R2.out)
/-- an identifier of a prerelease: what it adds to the key -/
def identS (w : BL) : Option BL := if w.all isD = true then (if plainN w = true then some (0 :: num w) else none) else some (1 :: w)
/-- the end of a function that accepts a word -/
def PostA (B b : Nat) (w : World) (r : ByteArray) (k : BL) (o : Option BL) (e : Ending) (w' : World) : Prop := e = .returned (.bool o.isSome) ∧ Below B w w' ∧ ∀ x, o = some x → Rd B w' b r (k ++ x)
set_option maxRecDepth 100000 in
set_option maxHeartbeats 1000000 in
theorem identifier_any (B b : Nat) (l : BL) (r : ByteArray) (k : BL) (w : World) (h : Rd B w b r k) (hl : l.length ≤ 64) (hk : k.length ≤ 1000) (hne : l ≠ []) :
    Calls Tryz.prog 80 #[.pointer (some ⟨b, 0, none⟩), .string (bs l)] w (PostA B b w r k (identS l)) := by
  have hB := h.1
  have hlt := h.lt
  have HT := Lib.hid (fun w => trim_any l w (by omega) hne)
  have HM0 := Lib.hid (fun w h => mark_any B b 0 r k w h (by omega))
  have HM1 := Lib.hid (fun w h => mark_any B b 1 r k w h (by omega))
  have HN := Lib.hid (fun w h => number_any B b l r (k ++ [0]) w h (by simp; omega) (by omega))
  have HW := Lib.hid (fun w h => word_any B b l r (k ++ [1]) w h (by simp; omega) (by omega))
  have HP := Lib.hid (fun w => plain_any l w (by omega))
  have HH := Lib.hid h
  have HS := Lib.hid (show identS l = if l.all isD = true then (if plainN l = true then some (0 :: num l) else none) else some (1 :: l) from rfl)
  have HE := Lib.hid (show ((bs ((dropR l).dropWhile isD)).toList == []) = l.all isD by
    rw [Lib.toList_data, bs_data, Bool.eq_iff_iff, beq_iff_eq]; exact trim_empty l)
  generalize bs ((dropR l).dropWhile isD) = s at *
  generalize bs l = s1 at *
  clear h
  obtain ⟨q, hq⟩ : ∃ q, l.all isD = q := ⟨_, rfl⟩
  rw [hq] at HE HS
  have hE := HE.out
  clear hq
  cases q
  · have HX := Lib.hid (show identS l = some (1 :: l) from HS.out)
    go_enter Tryz.func80, Tryz.ntmps80
    go_wp2_with fail
    refine (HT.out _).mono ?_
    rintro e w1 ⟨rfl, b1⟩
    have R1 := Lib.hid (HH.out.below b1 (Nat.le_refl _)); have B1 := Lib.hid (b1.mono (show B ≤ w.heap.size by omega)); clear b1
    go_wp2_with fail
    refine (HM1.out _ R1.out).mono ?_
    rintro e w2 ⟨rfl, r2, b2⟩
    have R2 := Lib.hid r2; have B2 := Lib.hid b2; clear r2 b2
    go_wp2_with fail
    refine (HW.out _ R2.out).mono ?_
    rintro e w3 ⟨rfl, r3, b3⟩
    have R3 := Lib.hid r3; have B3 := Lib.hid b3; clear r3 b3
    go_wp2_with fail
    go_ret
    exact ⟨by rw [HX.out]; rfl, (B1.out.trans B2.out).trans B3.out, fun x hx => by rw [HX.out] at hx; injection hx with hx; subst hx; have := R3.out; rwa [List.append_assoc] at this⟩
  · obtain ⟨p, hp⟩ : ∃ p, plainN l = p := ⟨_, rfl⟩
    rw [hp] at HP HS
    clear hp
    cases p
    all_goals
      first
        | (have HX := Lib.hid (show identS l = none from HS.out))
        | (have HX := Lib.hid (show identS l = some (0 :: num l) from HS.out))
      go_enter Tryz.func80, Tryz.ntmps80
      go_wp2_with fail
      refine (HT.out _).mono ?_
      rintro e w1 ⟨rfl, b1⟩
      have R1 := Lib.hid (HH.out.below b1 (Nat.le_refl _)); have B1 := Lib.hid (b1.mono (show B ≤ w.heap.size by omega)); clear b1
      go_wp2_with fail
      refine (HM0.out _ R1.out).mono ?_
      rintro e w2 ⟨rfl, r2, b2⟩
      have R2 := Lib.hid r2; have B2 := Lib.hid b2; clear r2 b2
      go_wp2_with fail
      refine (HN.out _ R2.out).mono ?_
      rintro e w3 ⟨rfl, r3, b3⟩
      have R3 := Lib.hid r3; have B3 := Lib.hid b3; clear r3 b3
      go_wp2_with fail
      refine (HP.out _).mono ?_
      rintro e w' ⟨rfl, rfl⟩
      go_wp2_with fail
      go_ret
      exact ⟨by rw [HX.out]; rfl, (B1.out.trans B2.out).trans B3.out, fun x hx => by
        rw [HX.out] at hx
        first
          | (cases hx; done)
          | (injection hx with hx; subst hx; have := R3.out; rwa [List.append_assoc] at this)⟩
end Go.Proofs.YtceeilojcifgeaaGreatDoor
