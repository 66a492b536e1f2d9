/-
  The walk of the statement PatternLiterals: it returns true for all strings.
-/
import Derived.Test.YtmafefdchglpbabDoorPatV
import Derived.Test.YtmafefdchglpbabDoorPatS
namespace Go.Proofs.YtmafefdchglpbabDoor
open Go.RowKit

/-- the parts of a literal -/
def litP (l : List UInt8) : List Pt := l.map fun c => (0, (c.toNat : Int))
theorem rdP_lit (l : List UInt8) : rdP (litL l) = some (litP l) := by
  induction l with
  | nil => rfl
  | cons c r ih =>
    have e : litL (c :: r) = lit1 c ++ litL r := by simp [litL]
    rw [e]
    unfold lit1
    cases h : spB c
    · rw [if_neg (by simp)]
      have hc : c ≠ 92 ∧ c ≠ 42 ∧ c ≠ 63 := by
        unfold spB at h
        simp only [Bool.or_eq_false_iff, beq_eq_false_iff_ne] at h
        exact ⟨h.1.1, h.1.2, h.2⟩
      rw [List.singleton_append, rdP_c c _ hc.1 hc.2.1 hc.2.2, ih]; rfl
    · rw [if_pos rfl]
      show rdP (92 :: c :: litL r) = _
      rw [rdP_esc, ih]; rfl
theorem litP_length (l : List UInt8) : (litP l).length = l.length := by simp [litP]
theorem litP_at (l : List UInt8) (i : Nat) (h : i < l.length) : (litP l).getD i (0, 0) = (0, (l[i].toNat : Int)) := by
  simp [litP, List.getD_eq_getElem?_getD, h]
theorem litP_one (l : List UInt8) (i : Nat) : seqP ((litP l).getD i (0, 0)) = false := by
  by_cases h : i < l.length
  · rw [litP_at l i h]; rfl
  · rw [List.getD_eq_getElem?_getD, List.getElem?_eq_none (by rw [litP_length]; omega)]; rfl
theorem u8_eqI (c d : UInt8) : ((c.toNat : Int) == (d.toNat : Int)) = (c == d) := by
  by_cases h : c = d
  · subst h; simp
  · rw [beq_eq_false_iff_ne.2 h, beq_eq_false_iff_ne]; intro e; apply h; apply UInt8.toNat_inj.1; omega
theorem nvc_lit (l : List UInt8) (old : List Bool) (c : UInt8) (i : Nat) : nvc (litP l) old (c.toNat : Int) i = arr (litP l) old (c.toNat : Int) i := (nvc_one (litP_one l i)).1
theorem arr_lit (l : List UInt8) (old : List Bool) (c : UInt8) (i : Nat) (h : i < l.length) : arr (litP l) old (c.toNat : Int) (i + 1) = (old.getD i false && (c == l[i])) := by
  rw [(nvc_one (litP_one l i)).2, litP_at l i h]
  show (_ && ((c.toNat : Int) == (l[i].toNat : Int))) = _
  rw [u8_eqI]
theorem run_lit (l : List UInt8) : ∀ (n : Nat) (u : List UInt8), u.length = n → ∀ i, i ≤ l.length → (runL (litP l) u).getD i false = decide (u = l.take i)
  | 0, u, hu, i, hi => by
    have : u = [] := List.eq_nil_of_length_eq_zero hu
    subst this
    show (iniL (litP l)).getD i false = _
    have h1 : (iniL (litP l)).getD i false = ini (litP l) i := by
      unfold iniL
      rw [List.getD_eq_getElem?_getD, List.getElem?_map, List.getElem?_range (by rw [litP_length]; omega)]; rfl
    rw [h1]
    cases i with
    | zero => simp [ini]
    | succ j =>
      rw [ini_succ, litP_one, Bool.and_false]
      symm; rw [decide_eq_false_iff_not]
      intro e
      have := congrArg List.length e
      rw [List.length_take] at this; simp at this; omega
  | n + 1, u, hu, i, hi => by
    obtain ⟨v, c, rfl⟩ : ∃ v c, u = v ++ [c] := by
      rcases List.eq_nil_or_concat u with h | ⟨v, c, h⟩
      · subst h; simp at hu
      · exact ⟨v, c, by simpa using h⟩
    have ih := run_lit l n v (by simpa using hu)
    rw [runL_snoc]
    have h1 : (advL (litP l) (runL (litP l) v) (c.toNat : Int)).getD i false = arr (litP l) (runL (litP l) v) (c.toNat : Int) i := by
      unfold advL
      rw [List.getD_eq_getElem?_getD, List.getElem?_map, List.getElem?_range (by rw [litP_length]; omega)]
      show nvc _ _ _ i = _
      exact nvc_lit _ _ _ _
    rw [h1]
    cases i with
    | zero =>
      show false = _
      symm; rw [decide_eq_false_iff_not]; simp
    | succ j =>
      have hj : j < l.length := by omega
      rw [arr_lit _ _ _ _ hj, ih j (by omega), List.take_succ_eq_append_getElem hj, Bool.eq_iff_iff, Bool.and_eq_true, decide_eq_true_iff, beq_iff_eq, decide_eq_true_iff]
      constructor
      · rintro ⟨rfl, rfl⟩; rfl
      · intro e
        obtain ⟨e1, e2⟩ := List.append_inj' e rfl
        exact ⟨e1, by injection e2⟩
theorem conc_lit (l u : List UInt8) : concB (litP l) u = decide (u = l) := by
  unfold concB
  rw [litP_length, run_lit l u.length u rfl l.length (Nat.le_refl _), List.take_length]
theorem lit_mem {l : List UInt8} {x : UInt8} (h : x ∈ litL l) : x = 92 ∨ x ∈ l := by
  unfold litL at h
  obtain ⟨c, hc, hx⟩ := List.mem_flatMap.1 h
  unfold lit1 at hx
  split at hx
  · simp at hx; rcases hx with h1 | h1
    · exact .inl h1
    · exact .inr (h1 ▸ hc)
  · simp at hx; exact .inr (hx ▸ hc)
theorem lit_zero {l : List UInt8} (h : Lib.indexByte l 0 < 0) : Lib.indexByte (litL l) 0 < 0 := by
  refine zero_free fun j hj hz => ?_
  have hge := Lib.indexByte_ge l 0
  have hm : (litL l)[j] ∈ litL l := List.getElem_mem hj
  rw [List.getD_eq_getElem?_getD, List.getElem?_eq_getElem hj] at hz
  have hz' : (litL l)[j] = 0 := hz
  rw [hz'] at hm
  rcases lit_mem hm with h1 | h1
  · cases h1
  · obtain ⟨k, hk, he⟩ := List.getElem_of_mem h1
    have := Lib.indexByte_none (l := l) (c := 0) (by omega) k
    apply this
    rw [List.getElem?_eq_getElem hk, he]
theorem pathB_ne {s : ByteArray} (h : pathB s = true) : s.data.toList ≠ [] := by
  intro e; rw [pathB_empty e] at h; cases h
theorem pathB_zero {s : ByteArray} (h : pathB s = true) : Lib.indexByte s.data.toList 0 < 0 := by
  unfold pathB at h; simp at h; exact h.1.2
theorem litL_ne {l : List UInt8} (h : l ≠ []) : litL l ≠ [] := by
  cases l with
  | nil => exact absurd rfl h
  | cons c r => unfold litL lit1; simp; split <;> simp
/-- the literal of a path, if it is a pattern -/
theorem patL_lit {s : ByteArray} (h : validB (litB s) = true) : pathB s = true ∧ patL (litB s).data.toList = some (litP s.data.toList) := by
  unfold validB at h
  cases hp : pathB s
  · exfalso
    have e : litB s = ⟨#[]⟩ := by unfold litB; rw [hp]; rfl
    rw [e] at h; revert h; decide +kernel
  · refine ⟨rfl, ?_⟩
    have e : (litB s).data.toList = litL s.data.toList := by unfold litB; rw [hp]; rfl
    rw [e] at h ⊢
    have h2 : (litL s.data.toList).length ≤ 200 := by
      rcases Nat.lt_or_ge 200 (litL s.data.toList).length with h3 | h3
      · rw [patL_nil _ (.inr (.inl h3))] at h; cases h
      · exact h3
    rw [patL_of (litL_ne (pathB_ne hp)) h2 (lit_zero (pathB_zero hp)), rdP_lit]
theorem mt_invalid {p : ByteArray} (h : validB p = false) (s : ByteArray) : mtB p s = false := by
  unfold validB at h
  cases hp : patL p.data.toList with
  | none => exact mtB_none hp
  | some ps => rw [hp] at h; cases h
theorem mt_lit {s : ByteArray} (h : validB (litB s) = true) (t : ByteArray) : mtB (litB s) t = (s.toList == t.toList) := by
  obtain ⟨h1, h2⟩ := patL_lit h
  rw [mtB_some h2, conc_lit, Lib.toList_data, Lib.toList_data, Bool.eq_iff_iff, Bool.and_eq_true, decide_eq_true_iff, beq_iff_eq]
  constructor
  · rintro ⟨_, e⟩; exact e.symm
  · intro e
    have : s = t := by apply ByteArray.ext; exact Array.ext' e
    subst this; exact ⟨h1, rfl⟩
set_option maxRecDepth 100000 in
set_option maxHeartbeats 1000000 in
theorem patternLiterals_any (s t : ByteArray) (w : World) :
    Calls Tryd.prog 5 #[.string s, .string t] w fun e w' => e = .returned (.bool true) ∧ Below w.heap.size w w' := by
  by_cases hs : 500 < s.size
  · have hd : decide ((s.size : Int) > 500) = true := by simp; omega
    go_enter Tryd.func5, Tryd.ntmps5
    go_wp2
    go_ret
    exact ⟨rfl, Below.refl _ _⟩
  have hd : decide ((s.size : Int) > 500) = false := by simp; omega
  by_cases ht : 500 < t.size
  · have hd2 : decide ((t.size : Int) > 500) = true := by simp; omega
    go_enter Tryd.func5, Tryd.ntmps5
    go_wp2
    go_ret
    exact ⟨rfl, Below.refl _ _⟩
  have hd2 : decide ((t.size : Int) > 500) = false := by simp; omega
  have H0 := Lib.hid (fun w => awakeP_any w)
  have H1 := Lib.hid (fun w => Literal_any s w)
  have H2 := Lib.hid (fun w => refLiteral_any s w)
  have H3 := Lib.hid (fun w => Valid_any (litB s) w)
  have H4 := Lib.hid (fun w => Match_any (litB s) s w)
  have H5 := Lib.hid (fun w => Match_any (litB s) t w)
  have hne : (litB s).toList = (litB s).toList := rfl
  cases hv : validB (litB s)
  · rw [hv] at H3
    rw [mt_invalid hv] at H4
    obtain ⟨p, hp⟩ : ∃ p, litB s = p := ⟨_, rfl⟩
    rw [hp] at H1 H2 H3 H4
    clear hv hp H5 hne
    go_enter Tryd.func5, Tryd.ntmps5
    go_wp2_with fail
    refine (H1.out _).mono ?_
    rintro e w1 ⟨rfl, b1⟩
    go_wp2_with fail
    refine (H2.out _).mono ?_
    rintro e w2 ⟨rfl, b2⟩
    have b2 := b1.trans (b2.mono b1.size)
    go_wp2_with fail
    refine (H3.out _).mono ?_
    rintro e w3 ⟨rfl, b3⟩
    have b3 := b2.trans (b3.mono b2.size)
    go_wp2_with fail
    refine (H0.out _).mono ?_
    rintro e w4 ⟨rfl, b4⟩
    have b4 := b3.trans (b4.mono b3.size)
    go_wp2_with fail
    refine (H4.out _).mono ?_
    rintro e w5 ⟨rfl, b5⟩
    have b5 := b4.trans (b5.mono b4.size)
    go_wp2_with fail
    go_ret
    exact ⟨rfl, b5⟩
  · rw [hv] at H3
    have h4 := mt_lit hv s
    rw [beq_self_eq_true] at h4
    rw [h4] at H4
    rw [mt_lit hv t] at H5
    obtain ⟨eb, heb⟩ : ∃ b, (s.toList == t.toList) = b := ⟨_, rfl⟩
    rw [heb] at H5
    obtain ⟨p, hp⟩ : ∃ p, litB s = p := ⟨_, rfl⟩
    rw [hp] at H1 H2 H3 H4 H5
    clear hv hp h4 hne
    go_enter Tryd.func5, Tryd.ntmps5
    go_wp2_with fail
    refine (H1.out _).mono ?_
    rintro e w1 ⟨rfl, b1⟩
    go_wp2_with fail
    refine (H2.out _).mono ?_
    rintro e w2 ⟨rfl, b2⟩
    have b2 := b1.trans (b2.mono b1.size)
    go_wp2_with fail
    refine (H3.out _).mono ?_
    rintro e w3 ⟨rfl, b3⟩
    have b3 := b2.trans (b3.mono b2.size)
    go_wp2_with fail
    refine (H0.out _).mono ?_
    rintro e w4 ⟨rfl, b4⟩
    have b4 := b3.trans (b4.mono b3.size)
    go_wp2_with fail
    refine (H4.out _).mono ?_
    rintro e w5 ⟨rfl, b5⟩
    have b5 := b4.trans (b5.mono b4.size)
    go_wp2_with fail
    refine (H5.out _).mono ?_
    rintro e w6 ⟨rfl, b6⟩
    have b6 := b5.trans (b6.mono b5.size)
    cases eb
    all_goals
      go_wp2_with fail
      go_ret
      exact ⟨rfl, b6⟩
end Go.Proofs.YtmafefdchglpbabDoor
