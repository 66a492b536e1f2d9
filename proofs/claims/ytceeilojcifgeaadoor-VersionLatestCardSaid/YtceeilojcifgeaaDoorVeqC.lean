/-
  Versions: Debian and Dotted versions are read as the reference reads them. Plain mathematics.
-/
import Derived.Test.YtceeilojcifgeaaDoorVeqB
namespace Go.Proofs.YtceeilojcifgeaaDoor

/-- the bytes of upstream versions -/
def okD (c : UInt8) : Bool := okB [46, 43, 126, 45] c
theorem contains4 (c : UInt8) : ([46, 43, 126, 45] : BL).contains c = true ↔ c = 46 ∨ c = 43 ∨ c = 126 ∨ c = 45 := by simp
theorem contains3 (c : UInt8) : ([46, 43, 126] : BL).contains c = true ↔ c = 46 ∨ c = 43 ∨ c = 126 := by simp
theorem mark_ok {c : UInt8} (h : isD c = false) : (∃ m, mark6 c = some m) ↔ okD c = true := by
  unfold okD okB
  rw [h, Bool.false_or, Bool.or_eq_true, contains4]
  by_cases h1 : c = 126
  · subst h1; exact ⟨fun _ => .inr (by simp), fun _ => ⟨_, mark_tilde⟩⟩
  · cases h2 : isL c
    · by_cases h3 : c = 46 ∨ c = 43 ∨ c = 45
      · refine ⟨fun _ => .inr ?_, fun _ => ⟨_, mark_other h1 h2 h3⟩⟩
        rcases h3 with h | h | h
        · exact .inl h
        · exact .inr (.inl h)
        · exact .inr (.inr (.inr h))
      · rw [mark_none h1 h2 h3]
        refine ⟨(fun ⟨m, e⟩ => by cases e), fun h => ?_⟩
        rcases h with h | h | h | h | h
        · cases h
        · exact absurd (.inl h) h3
        · exact absurd (.inr (.inl h)) h3
        · exact absurd h h1
        · exact absurd (.inr (.inr h)) h3
    · exact ⟨fun _ => .inl rfl, fun _ => ⟨_, mark_letter h1 h2⟩⟩
theorem marks_ok : ∀ (l : BL), (∀ c ∈ l, isD c = false) → ((∃ p, marks6 l = some p) ↔ ∀ c ∈ l, okD c = true)
  | [], _ => ⟨(fun _ c hc => by cases hc), fun _ => ⟨[], rfl⟩⟩
  | c :: l, h => by
    have ih := marks_ok l (fun x hx => h x (by simp [hx]))
    have hc := mark_ok (h c (by simp))
    unfold marks6
    cases hm : mark6 c with
    | none =>
      refine ⟨(fun ⟨p, e⟩ => by cases e), fun hall => ?_⟩
      obtain ⟨m, e⟩ := hc.2 (hall c (by simp)); rw [hm] at e; cases e
    | some m =>
      simp only []
      constructor
      · rintro ⟨p, e⟩
        obtain ⟨q, hq, _⟩ := Option.map_eq_some_iff.1 e
        intro x hx
        rcases List.mem_cons.1 hx with rfl | hx
        · exact hc.1 ⟨m, hm⟩
        · exact ih.1 ⟨q, hq⟩ x hx
      · intro hall
        obtain ⟨q, hq⟩ := ih.2 (fun x hx => hall x (by simp [hx]))
        exact ⟨m :: q, by rw [hq]; rfl⟩
theorem digit_ok {c : UInt8} (h : isD c = true) : okD c = true := by unfold okD okB; rw [h]; simp
theorem part_ok : ∀ (n : Nat) (s : BL), s.length ≤ n → ((∃ k, part6 s = some k) ↔ ∀ c ∈ s, okD c = true) := by
  intro n
  induction n with
  | zero =>
    intro s hn
    have e : s = [] := List.eq_nil_of_length_eq_zero (by omega)
    subst e
    exact ⟨(fun _ c hc => by cases hc), fun _ => ⟨_, part_nil⟩⟩
  | succ n ih =>
    intro s hn
    have j1 := tw_join notD s
    have j2 : s.dropWhile notD = dig6 s ++ rest6 s := tw_join isD (s.dropWhile notD)
    have hpre : ∀ c ∈ s.takeWhile notD, isD c = false := fun c hc => by
      have := tw_all notD s c hc; unfold notD at this; simpa using this
    have hdig : ∀ c ∈ dig6 s, isD c = true := tw_all isD _
    have hm := marks_ok _ hpre
    have memall : (∀ c ∈ s, okD c = true) ↔ (∀ c ∈ s.takeWhile notD, okD c = true) ∧ (∀ c ∈ rest6 s, okD c = true) := by
      constructor
      · intro h
        exact ⟨fun c hc => h c (by rw [j1]; exact List.mem_append_left _ hc), fun c hc => h c (by rw [j1, j2]; exact List.mem_append_right _ (List.mem_append_right _ hc))⟩
      · rintro ⟨h1, h2⟩ c hc
        rw [j1] at hc
        rcases List.mem_append.1 hc with hc | hc
        · exact h1 c hc
        · rw [j2] at hc
          rcases List.mem_append.1 hc with hc | hc
          · exact digit_ok (hdig c hc)
          · exact h2 c hc
    rw [memall]
    by_cases hr : rest6 s = []
    · rw [hr]
      constructor
      · rintro ⟨k, hk⟩
        obtain ⟨p, t, hp, _, _⟩ := part6_step s k hk
        exact ⟨hm.1 ⟨p, hp⟩, fun c hc => by cases hc⟩
      · rintro ⟨h1, _⟩
        obtain ⟨p, hp⟩ := hm.2 h1
        exact ⟨_, part6_end hp hr⟩
    · have hs : s ≠ [] := fun e => hr (by rw [e]; rfl)
      have hlt := rest6_len s hs
      have ih' := ih (rest6 s) (by omega)
      constructor
      · rintro ⟨k, hk⟩
        obtain ⟨p, t, hp, ht, _⟩ := part6_step s k hk
        unfold tail6 at ht; rw [if_neg hr] at ht
        exact ⟨hm.1 ⟨p, hp⟩, ih'.1 ⟨t, ht⟩⟩
      · rintro ⟨h1, h2⟩
        obtain ⟨p, hp⟩ := hm.2 h1
        obtain ⟨t, ht⟩ := ih'.2 h2
        exact ⟨_, by rw [part6_on hp hr, ht]; rfl⟩
theorem part_some (s : BL) : (∃ k, part6 s = some k) ↔ ∀ c ∈ s, okD c = true := part_ok _ s (Nat.le_refl _)
theorem lastK_last (c : UInt8) (l : BL) : ∀ (k : Nat), k ≤ l.length → ∀ i : Nat, lastK c l k = (i : Int) → i < k ∧ l.getD i 0 = c ∧ ∀ j, i < j → j < k → l.getD j 0 ≠ c
  | 0, _, i, h => by unfold lastK at h; omega
  | k + 1, hk, i, h => by
    by_cases hc : l.getD k 0 = c
    · rw [lastK_hit hc] at h
      obtain rfl : k = i := by omega
      exact ⟨by omega, hc, fun j h1 h2 => by omega⟩
    · rw [lastK_miss hc] at h
      obtain ⟨h1, h2, h3⟩ := lastK_last c l k (by omega) i h
      refine ⟨by omega, h2, fun j h4 h5 => ?_⟩
      rcases Nat.lt_succ_iff_lt_or_eq.1 h5 with h6 | rfl
      · exact h3 j h4 h6
      · exact hc
theorem rev_no45 (l : BL) : ∀ x ∈ revD l, x ≠ 45 := by
  intro x hx
  unfold revD at hx
  split at hx
  · cases hx
  · rename_i h
    obtain ⟨i, hi⟩ : ∃ i : Nat, lastI 45 l = (i : Int) := ⟨(lastI 45 l).toNat, by omega⟩
    have h1 := lastK_last 45 l l.length (Nat.le_refl _) i hi
    rw [hi] at hx
    obtain ⟨j, hj, rfl⟩ := List.getElem_of_mem hx
    rw [List.getElem_drop]
    have hj2 : i + 1 + j < l.length := by rw [List.length_drop] at hj; simp at hj; omega
    have := h1.2.2 (i + 1 + j) (by omega) hj2
    rw [List.getD_eq_getElem?_getD, List.getElem?_eq_getElem hj2] at this
    simpa using this
theorem mem_parts (l : BL) (x : UInt8) (hx : x ∈ l) (h : x ≠ 45) : x ∈ upsD l ∨ x ∈ revD l := by
  unfold upsD revD
  by_cases hn : lastI 45 l < 0
  · rw [if_pos hn, if_pos hn]; exact .inl hx
  · rw [if_neg hn, if_neg hn]
    obtain ⟨i, hi⟩ : ∃ i : Nat, lastI 45 l = (i : Int) := ⟨(lastI 45 l).toNat, by omega⟩
    obtain ⟨h1, h2, _⟩ := lastK_last 45 l l.length (Nat.le_refl _) i hi
    rw [hi]
    show x ∈ l.take i ∨ x ∈ l.drop (i + 1)
    have e : l = l.take i ++ l[i] :: l.drop (i + 1) := by rw [← List.drop_eq_getElem_cons h1, List.take_append_drop]
    rw [e] at hx
    rcases List.mem_append.1 hx with hx | hx
    · exact .inl hx
    · rcases List.mem_cons.1 hx with hx | hx
      · exfalso; rw [List.getD_eq_getElem?_getD, List.getElem?_eq_getElem h1] at h2; exact h (hx.trans h2)
      · exact .inr hx
theorem ok3 {c : UInt8} (h : c ≠ 45) : okB [46, 43, 126] c = okD c := by
  unfold okD okB
  have : ([46, 43, 126] : BL).contains c = ([46, 43, 126, 45] : BL).contains c := by
    rw [Bool.eq_iff_iff, contains3, contains4]
    constructor
    · rintro (h | h | h)
      · exact .inl h
      · exact .inr (.inl h)
      · exact .inr (.inr (.inl h))
    · rintro (h1 | h1 | h1 | h1)
      · exact .inl h1
      · exact .inr (.inl h1)
      · exact .inr (.inr h1)
      · exact absurd h1 h
  rw [this]
def DebRel (o : Option (List BL)) (k : Option BL) : Prop := match o with
  | none => k = none
  | some p => ∃ e u r k1 k2, p = [e, u, r] ∧ k = some (num e ++ (k1 ++ k2)) ∧ part6 u = some k1 ∧ part6 r = some k2
theorem debP_none {u r k : BL} (h : hdD u = false ∨ (∀ k, part6 u ≠ some k) ∨ (∀ k, part6 r ≠ some k)) : debP u r k = none := by
  unfold debP
  cases u with
  | nil => rfl
  | cons c u =>
    simp only []
    split
    · rename_i hc
      rcases h with h | h | h
      · exact absurd hc (by show ¬ _; rw [show hdD (c :: u) = isD c from rfl] at h; rw [h]; simp)
      · have : prtS (c :: u) k = none := by unfold prtS; cases hp : part6 (c :: u) with | none => rfl | some q => exact absurd hp (h q)
        rw [this]
      · cases hp : prtS (c :: u) k with
        | none => rfl
        | some k1 =>
          show prtS r k1 = none
          unfold prtS; cases hp : part6 r with | none => rfl | some q => exact absurd hp (h q)
    · rfl
theorem debP_some {u r k k1 k2 : BL} (h : hdD u = true) (h1 : part6 u = some k1) (h2 : part6 r = some k2) : debP u r k = some ((k ++ k1) ++ k2) := by
  unfold debP
  cases u with
  | nil => cases h
  | cons c u =>
    simp only []
    rw [if_pos (show isD c = true from h)]
    have e1 : prtS (c :: u) k = some (k ++ k1) := by unfold prtS; rw [h1]; rfl
    rw [e1]
    show prtS r (k ++ k1) = _
    unfold prtS; rw [h2]; rfl
/-- behind the epoch -/
theorem deb_rel2 (ep rest : BL) (hd : digs ep = true) : DebRel (debR2 ep rest) (if 0 ≤ lastI 45 rest ∧ revD rest = [] then none else debP (upsD rest) (revD rest) (num ep)) := by
  unfold debR2
  by_cases hm : 0 ≤ lastI 45 rest ∧ madeB [46, 43, 126] (revD rest) = false
  · rw [if_pos hm]
    show _ = none
    by_cases he : revD rest = []
    · rw [if_pos ⟨hm.1, he⟩]
    · rw [if_neg (fun h => he h.2)]
      refine debP_none (.inr (.inr (fun k hk => ?_)))
      have hall := (part_some _).1 ⟨k, hk⟩
      have : madeB [46, 43, 126] (revD rest) = true := (madeB_iff _ _).2 ⟨fun c hc => by rw [ok3 (rev_no45 rest c hc)]; exact hall c hc, he⟩
      rw [hm.2] at this; cases this
  · rw [if_neg hm]
    have hno : ¬ (0 ≤ lastI 45 rest ∧ revD rest = []) := fun h => hm ⟨h.1, by rw [h.2]; rfl⟩
    rw [if_neg hno, hd, Bool.true_and]
    have hrev : ∃ k2, part6 (revD rest) = some k2 := by
      by_cases h0 : 0 ≤ lastI 45 rest
      · have : madeB [46, 43, 126] (revD rest) = true := by
          cases h : madeB [46, 43, 126] (revD rest)
          · exact absurd ⟨h0, h⟩ hm
          · rfl
        exact (part_some _).2 (fun c hc => by rw [← ok3 (rev_no45 rest c hc)]; exact ((madeB_iff _ _).1 this).1 c hc)
      · have : revD rest = [] := by unfold revD; rw [if_pos (by omega)]
        rw [this]; exact ⟨_, part_nil⟩
    obtain ⟨k2, hk2⟩ := hrev
    cases hh : hdD (upsD rest)
    · rw [Bool.and_false, if_neg (by simp)]; exact debP_none (.inl hh)
    · cases hu : madeB [46, 43, 126, 45] (upsD rest)
      · rw [if_neg (by simp)]
        refine debP_none (.inr (.inl (fun k hk => ?_)))
        have hall := (part_some _).1 ⟨k, hk⟩
        have : madeB [46, 43, 126, 45] (upsD rest) = true := (madeB_iff _ _).2 ⟨hall, by intro e; rw [e] at hh; cases hh⟩
        rw [hu] at this; cases this
      · rw [if_pos (by simp)]
        obtain ⟨k1, hk1⟩ := (part_some _).2 ((madeB_iff _ _).1 hu).1
        exact ⟨ep, upsD rest, revD rest, k1, k2, rfl, by rw [debP_some hh hk1 hk2]; simp, hk1, hk2⟩
theorem debP_colon {l : BL} (h : (58 : UInt8) ∈ l) (k : BL) : debP (upsD l) (revD l) k = none := by
  rcases mem_parts l 58 h (by decide) with h | h
  · refine debP_none (.inr (.inl (fun k hk => ?_)))
    exact absurd ((part_some _).1 ⟨k, hk⟩ 58 h) (by decide)
  · refine debP_none (.inr (.inr (fun k hk => ?_)))
    exact absurd ((part_some _).1 ⟨k, hk⟩ 58 h) (by decide)
theorem num_zero : num [48] = num [] := rfl
theorem no_epoch {l : BL} (h : hasE l = false) : epL l = l ∧ epD l = [] := by unfold epL epD; rw [h]; exact ⟨rfl, rfl⟩
theorem deb_rel (l : BL) : DebRel (debR l) (debS l) := by
  unfold debR debS
  rcases cutL_cases 58 l with ⟨hc, h58⟩ | ⟨a, r, rfl, h58, hc⟩
  · rw [hc]
    have hE : hasE l = false := by
      unfold hasE
      have : skB 58 (l.dropWhile isD) = false := by
        cases hd : l.dropWhile isD with
        | nil => rfl
        | cons c q => exact skB_diff (h58 c (by have := tw_join isD l; rw [hd] at this; rw [this]; simp)) q
      rw [this, Bool.and_false]
    obtain ⟨e1, e2⟩ := no_epoch hE
    rw [e1, e2, ← num_zero]
    exact deb_rel2 [48] l rfl
  · rw [hc]
    show DebRel (debR2 a r) _
    have hja := tw_split isD a (58 :: r) (by intro c q e; injection e with e _; subst e; decide)
    cases hd : digs a
    · have hE : hasE (a ++ 58 :: r) = false := by
        unfold hasE
        rw [hja.1, hja.2]
        cases hdw : a.dropWhile isD with
        | nil =>
          have : a = a.takeWhile isD := by have := tw_join isD a; rw [hdw, List.append_nil] at this; exact this
          have ha : a = [] := by
            cases a with
            | nil => rfl
            | cons c q =>
              exfalso
              have : digs (c :: q) = true := (digs_iff _).2 ⟨fun x hx => tw_all isD (c :: q) x (by rw [← this]; exact hx), by simp⟩
              rw [hd] at this; cases this
          subst ha; rfl
        | cons c q =>
          rw [List.cons_append, skB_diff (h58 c (by have := tw_join isD a; rw [hdw] at this; rw [this]; simp)), Bool.and_false]
      obtain ⟨e1, e2⟩ := no_epoch hE
      rw [e1, e2]
      have hn : debR2 a r = none := by unfold debR2; split; rfl; rw [hd, Bool.false_and, if_neg (by simp)]
      rw [hn]
      show _ = none
      split
      · rfl
      · exact debP_colon (by simp) _
    · obtain ⟨hda, hne⟩ := (digs_iff a).1 hd
      have e1 := tw_app isD a (58 :: r) hda (by intro c q e; injection e with e _; subst e; decide)
      have hE : hasE (a ++ 58 :: r) = true := by
        unfold hasE; rw [e1.1, e1.2, skB_self]
        have : (a == []) = false := beq_eq_false_iff_ne.2 hne
        rw [this]; rfl
      have e2 : epL (a ++ 58 :: r) = r := by unfold epL; rw [hE, e1.2]; rfl
      have e3 : epD (a ++ 58 :: r) = a := by unfold epD; rw [hE, e1.1]; rfl
      rw [e2, e3]
      exact deb_rel2 a r hd
/-- what dotS makes of the pieces -/
theorem dot_rel : ∀ (n : Nat) (l k : BL), l.length ≤ n → dotS l k = if (spl 46 l).all digs = true then some (dz (k ++ (spl 46 l).flatMap num)) else none := by
  intro n
  induction n with
  | zero =>
    intro l k hn
    have e : l = [] := List.eq_nil_of_length_eq_zero (by omega)
    subst e; rw [dotS_1 rfl]; rfl
  | succ n ih =>
    intro l k hn
    have hj := tw_join isD l
    have hall := tw_all isD l
    by_cases h0 : l.takeWhile isD = []
    · rw [dotS_1 h0, if_neg]
      intro h
      cases l with
      | nil => rw [show spl 46 [] = [[]] from rfl] at h; cases h
      | cons c q =>
        have hc : isD c = false := by
          rw [List.takeWhile_cons] at h0
          cases hc : isD c
          · rfl
          · rw [hc] at h0; simp at h0
        by_cases h46 : c = 46
        · subst h46; unfold spl at h; rw [if_pos rfl] at h; cases h
        · obtain ⟨x, xs, e⟩ := spl_head (c := 46) (a := []) (d := c) (r := q) (fun x hx => by cases hx) h46
          rw [List.nil_append] at e
          rw [e] at h
          have := ((digs_iff _).1 (List.all_eq_true.1 h ([] ++ c :: x) (by simp))).1 c (by simp)
          rw [hc] at this; cases this
    · have hdg : digs (l.takeWhile isD) = true := (digs_iff _).2 ⟨hall, h0⟩
      cases hr : l.dropWhile isD with
      | nil =>
        have hl : l = l.takeWhile isD := by rw [hr, List.append_nil] at hj; exact hj
        rw [dotS_2 h0 hr]
        have : spl 46 l = [l.takeWhile isD] := by
          conv => lhs; rw [hl]
          exact spl_one (fun x hx => (isD_ne (hall x hx)).2.2)
        rw [this]; simp [hdg]
      | cons c q =>
        rw [hr] at hj
        have hcD := dw_head isD l c q hr
        by_cases h46 : c = 46
        · subst h46
          have hs : spl 46 l = l.takeWhile isD :: spl 46 q := by
            conv => lhs; rw [hj]
            exact spl_app (fun x hx => (isD_ne (hall x hx)).2.2) q
          have hlen := congrArg List.length hj
          rw [List.length_append, List.length_cons] at hlen
          rw [dotS_4 h0 (by rw [hr]; simp) (by rw [hr]; exact skB_self 46 q), hr]
          show dotS q _ = _
          rw [ih q _ (by omega), hs, List.all_cons, hdg, Bool.true_and, List.flatMap_cons, List.append_assoc]
        · rw [dotS_3 h0 (by rw [hr]; simp) (by rw [hr]; exact skB_diff h46 q), if_neg]
          intro h
          obtain ⟨x, xs, e⟩ := spl_head (c := 46) (a := l.takeWhile isD) (d := c) (r := q) (fun x hx => (isD_ne (hall x hx)).2.2) h46
          rw [← hj] at e
          rw [e] at h
          have := ((digs_iff _).1 (List.all_eq_true.1 h (l.takeWhile isD ++ c :: x) (by simp))).1 c (by simp)
          rw [hcD] at this; cases this
theorem valB_some {s : Int} {l : BL} (hs : schB s = true) : valB s l = (keyO s l).isSome := by
  unfold valB keyR; rw [if_pos hs]; cases keyO s l <;> rfl
theorem valB_eq (s : Int) (l : BL) : valB s l = rValB s l := by
  cases hs : schB s
  · have e : keyR s l = ([], 14) := by unfold keyR; rw [hs]; rfl
    have h1 : s ≠ 1 := by rintro rfl; cases hs
    have h2 : s ≠ 2 := by rintro rfl; cases hs
    have h3 : s ≠ 3 := by rintro rfl; cases hs
    unfold valB rValB
    rw [e, if_neg h1, if_neg h2, if_neg h3]
    split <;> rfl
  · rw [valB_some hs]
    unfold rValB
    by_cases h0 : l = []
    · subst h0
      rw [if_pos (.inl rfl)]
      rcases sch_cases hs with rfl | rfl | rfl
      · have : keyO 1 [] = none := by decide +kernel
        rw [this]; rfl
      · have : keyO 2 [] = none := by decide +kernel
        rw [this]; rfl
      · have : keyO 3 [] = none := by decide +kernel
        rw [this]; rfl
    · by_cases h64 : 64 < l.length
      · rw [if_pos (.inr h64)]
        have : keyO s l = none := by unfold keyO; rw [if_pos h64]
        rw [this]; rfl
      · rw [if_neg (fun h => h.elim h0 h64)]
        rcases sch_cases hs with rfl | rfl | rfl
        · rw [keyO1 (by omega), if_pos rfl]
          have := sem_rel l
          cases hr : semR l with
          | none => rw [hr] at this; rw [show semS l = none from this]; rfl
          | some p => rw [hr] at this; obtain ⟨a, b, c, _, h, _⟩ := this; rw [h]; rfl
        · rw [keyO2 (by omega), if_neg (by decide), if_pos rfl]
          have := deb_rel l
          cases hr : debR l with
          | none => rw [hr] at this; rw [show debS l = none from this]; rfl
          | some p => rw [hr] at this; obtain ⟨_, _, _, _, _, _, h, _⟩ := this; rw [h]; rfl
        · rw [keyO3 (by omega), if_neg (by decide), if_neg (by decide), if_pos rfl, dot_rel _ l [] (Nat.le_refl _)]
          cases (spl 46 l).all digs <;> rfl
end Go.Proofs.YtceeilojcifgeaaDoor
