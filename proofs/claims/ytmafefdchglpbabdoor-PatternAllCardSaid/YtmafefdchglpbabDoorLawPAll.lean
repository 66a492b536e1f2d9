/-
  The walk of the statement PatternAll: it returns true for every string.
-/
import Derived.Test.YtmafefdchglpbabDoorPatI
namespace Go.Proofs.YtmafefdchglpbabDoor
open Go.RowKit

theorem advL_one (q : Pt) (hq : seqP q = true) (b : Bool) (c : Int) : advL [q] [b, b] c = [b && tkP q c, b && tkP q c] := by
  have e : [q].getD 0 (0, 0) = q := rfl
  simp [advL, nvc, arr, List.range_succ, hq]
theorem foldl_one (q : Pt) (hq : seqP q = true) : ∀ (l : List UInt8) (b : Bool), l.foldl (fun v c => advL [q] v (c.toNat : Int)) [b, b] = [b && l.all fun c => tkP q (c.toNat : Int), b && l.all fun c => tkP q (c.toNat : Int)]
  | [], b => by simp
  | c :: r, b => by rw [List.foldl_cons, advL_one q hq, foldl_one q hq r, List.all_cons, Bool.and_assoc]
theorem concB_one (q : Pt) (hq : seqP q = true) (l : List UInt8) : concB [q] l = l.all fun c => tkP q (c.toNat : Int) := by
  have hi : iniL [q] = [true, true] := by simp [iniL, ini, List.range_succ, hq]
  unfold concB runL
  rw [hi, foldl_one q hq]
  simp
theorem all_slash (l : List UInt8) : (l.all fun c => ((c.toNat : Int) != 47)) = decide (Lib.indexByte l 47 < 0) := by
  induction l with
  | nil => rfl
  | cons b r ih =>
    have hge := Lib.indexByte_ge r 47
    rw [List.all_cons, ih, Lib.indexByte]
    by_cases h : b = 47
    · subst h; simp
    · have h1 : ((b.toNat : Int) != 47) = true := by
        rw [bne_iff_ne]; intro e; apply h; apply UInt8.toNat_inj.1; show b.toNat = 47; omega
      rw [h1, Bool.true_and, if_neg (by simpa using h)]
      by_cases hm : Lib.indexByte r 47 = -1
      · rw [hm]; simp
      · have h2 : ¬ Lib.indexByte r 47 < 0 := by omega
        rw [decide_eq_false h2]
        symm; rw [decide_eq_false_iff_not]
        rw [if_neg (by simpa using hm)]; omega
theorem mt_deep (s : ByteArray) : mtB ⟨#[42, 42]⟩ s = pathB s := by
  have hp : patL (⟨#[42, 42]⟩ : ByteArray).data.toList = some [(3, 120)] := by decide +kernel
  rw [mtB_some hp, concB_one _ rfl]
  have : (s.data.toList.all fun c => tkP (3, 120) (c.toNat : Int)) = true := by rw [List.all_eq_true]; intro x _; rfl
  rw [this, Bool.and_true]
theorem mt_flat (s : ByteArray) : mtB ⟨#[42]⟩ s = (pathB s && !decide (Lib.indexB s slB ≥ 0)) := by
  have hp : patL (⟨#[42]⟩ : ByteArray).data.toList = some [(2, 120)] := by decide +kernel
  rw [mtB_some hp, concB_one _ rfl]
  have e : (s.data.toList.all fun c => tkP (2, 120) (c.toNat : Int)) = (s.data.toList.all fun c => ((c.toNat : Int) != 47)) := rfl
  rw [e, all_slash, indexB_one]
  congr 1
  by_cases h : Lib.indexByte s.data.toList 47 < 0
  · rw [decide_eq_true h, decide_eq_false (by omega)]; rfl
  · rw [decide_eq_false h, decide_eq_true (by omega)]; rfl
set_option maxRecDepth 100000 in
set_option maxHeartbeats 1000000 in
theorem patternAll_any (s : ByteArray) (w : World) :
    Calls Tryd.prog 4 #[.string s] w fun e w' => e = .returned (.bool true) ∧ Below w.heap.size w w' := by
  by_cases h500 : 500 < s.size
  · have hd : decide ((s.size : Int) > 500) = true := by simp; omega
    go_enter Tryd.func4, Tryd.ntmps4
    go_wp2
    go_ret
    exact ⟨rfl, Below.refl _ _⟩
  have hd : decide ((s.size : Int) > 500) = false := by simp; omega
  have H0 := Lib.hid (fun w => awakeP_any w)
  have h1 : ∀ w, Calls Tryd.prog 12 #[.string ⟨#[42, 42]⟩, .string s] w fun e w' => e = .returned (.bool (pathB s)) ∧ Below w.heap.size w w' := fun w => (Match_any ⟨#[42, 42]⟩ s w).mono fun e w' ⟨he, hb⟩ => ⟨by rw [he, mt_deep], hb⟩
  have h2 : ∀ w, Calls Tryd.prog 12 #[.string ⟨#[42]⟩, .string s] w fun e w' => e = .returned (.bool (pathB s && !decide (Lib.indexB s slB ≥ 0))) ∧ Below w.heap.size w w' := fun w => (Match_any ⟨#[42]⟩ s w).mono fun e w' ⟨he, hb⟩ => ⟨by rw [he, mt_flat], hb⟩
  have h3 : ∀ w, Calls Tryd.prog 14 #[.string s, .string ⟨#[47]⟩] w fun e w' => e = .returned (.bool (decide (Lib.indexB s slB ≥ 0))) ∧ w = w' := fun w => contains_anyP s w
  have h4 := fun w => Path_any s w
  obtain ⟨pb, hpb⟩ : ∃ b, pathB s = b := ⟨_, rfl⟩
  obtain ⟨cb, hcb⟩ : ∃ b, decide (Lib.indexB s slB ≥ 0) = b := ⟨_, rfl⟩
  rw [hpb] at h1 h2 h4
  rw [hcb] at h2 h3
  have H1 := Lib.hid h1; have H2 := Lib.hid h2; have H3 := Lib.hid h3; have H4 := Lib.hid h4
  clear h1 h2 h3 h4 hpb hcb
  go_enter Tryd.func4, Tryd.ntmps4
  go_wp2_with fail
  refine (H0.out _).mono ?_
  rintro e w1 ⟨rfl, b1⟩
  go_wp2_with fail
  refine (H1.out _).mono ?_
  rintro e w2 ⟨rfl, b2⟩
  go_wp2_with fail
  refine (H4.out _).mono ?_
  rintro e w3 ⟨rfl, b3⟩
  have B3 := Lib.hid ((b1.trans (b2.mono b1.size)).trans (b3.mono (Nat.le_trans b1.size b2.size)))
  clear b1 b2 b3
  cases pb
  · go_wp2_with fail
    refine (H2.out _).mono ?_
    rintro e w4 ⟨rfl, b4⟩
    go_wp2_with fail
    refine (H4.out _).mono ?_
    rintro e w5 ⟨rfl, b5⟩
    go_wp2_with fail
    go_ret
    exact ⟨rfl, (B3.out.trans (b4.mono B3.out.size)).trans (b5.mono (Nat.le_trans B3.out.size b4.size))⟩
  · cases cb
    all_goals
      go_wp2_with fail
      refine (H2.out _).mono ?_
      rintro e w4 ⟨rfl, b4⟩
      go_wp2_with fail
      refine (H4.out _).mono ?_
      rintro e w5 ⟨rfl, b5⟩
      go_wp2_with fail
      refine (H3.out _).mono ?_
      rintro e w6 ⟨rfl, rfl⟩
      go_wp2_with fail
      go_ret
      exact ⟨rfl, (B3.out.trans (b4.mono B3.out.size)).trans (b5.mono (Nat.le_trans B3.out.size b4.size))⟩
end Go.Proofs.YtmafefdchglpbabDoor
