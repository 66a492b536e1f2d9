/-
  Versions: a semantic version's key is that of the parts that the reference reads. Plain mathematics.
-/
import Derived.Test.YtceeilojcifgeaaDoorVeqA
namespace Go.Proofs.YtceeilojcifgeaaDoor

theorem cutL_cases (c : UInt8) (l : BL) : (cutL c l = (l, [], false) ∧ ∀ x ∈ l, x ≠ c) ∨ ∃ a r, l = a ++ c :: r ∧ (∀ x ∈ a, x ≠ c) ∧ cutL c l = (a, r, true) := by
  rcases idx_cases c l with ⟨_, h⟩ | ⟨a, r, rfl, h, _⟩
  · exact .inl ⟨cutL_no h, h⟩
  · exact .inr ⟨a, r, rfl, h, cutL_app h r⟩
theorem isD_ne {c : UInt8} (h : isD c = true) : c ≠ 43 ∧ c ≠ 45 ∧ c ≠ 46 := by
  refine ⟨?_, ?_, ?_⟩ <;> (rintro rfl; exact absurd h (by decide))
/-- what may stand behind the numbers -/
def CoreT (t : BL) : Prop := t = [] ∨ ∃ c r, t = c :: r ∧ (c = 43 ∨ c = 45)
def inCore (c : UInt8) : Bool := !(c == 43) && !(c == 45)
theorem inCore_iff (c : UInt8) : inCore c = true ↔ c ≠ 43 ∧ c ≠ 45 := by unfold inCore; simp
theorem CoreT.not {t : BL} (h : CoreT t) : ∀ c r, t = c :: r → inCore c = false := by
  intro c r e
  rcases h with rfl | ⟨d, q, rfl, h⟩
  · cases e
  · injection e with e _; subst e; rcases h with rfl | rfl <;> rfl
theorem CoreT.nodig {t : BL} (h : CoreT t) : ∀ c r, t = c :: r → isD c = false := by
  intro c r e
  rcases h with rfl | ⟨d, q, rfl, h⟩
  · cases e
  · injection e with e _; subst e; rcases h with rfl | rfl <;> rfl
theorem abc_core {a b c : BL} (ha : numB a = true) (hb : numB b = true) (hc : numB c = true) : ∀ x ∈ a ++ 46 :: (b ++ 46 :: c), inCore x = true := by
  have dg : ∀ {d : BL}, numB d = true → ∀ x ∈ d, inCore x = true := fun h x hx => (inCore_iff x).2 ⟨(isD_ne (((numB_iff _).1 h).1 x hx)).1, (isD_ne (((numB_iff _).1 h).1 x hx)).2.1⟩
  intro x hx
  rcases List.mem_append.1 hx with hx | hx
  · exact dg ha x hx
  · rcases List.mem_cons.1 hx with rfl | hx
    · rfl
    · rcases List.mem_append.1 hx with hx | hx
      · exact dg hb x hx
      · rcases List.mem_cons.1 hx with rfl | hx
        · rfl
        · exact dg hc x hx
theorem nums_core (core t : BL) (hcore : ∀ x ∈ core, x ≠ 43 ∧ x ≠ 45) (ht : CoreT t) :
    (∃ a b c, spl 46 core = [a, b, c] ∧ numB a = true ∧ numB b = true ∧ numB c = true ∧ nums5 (core ++ t) = some (t, num a ++ (num b ++ num c))) ∨
    ((∀ ids, semT core ids = none) ∧ (nums5 (core ++ t) = none ∨ ∃ c r k, nums5 (core ++ t) = some (c :: r, k) ∧ c ≠ 43 ∧ c ≠ 45)) := by
  by_cases hg : ∃ a b c, spl 46 core = [a, b, c] ∧ numB a = true ∧ numB b = true ∧ numB c = true
  · obtain ⟨a, b, c, h, ha, hb, hc⟩ := hg
    refine .inl ⟨a, b, c, h, ha, hb, hc, ?_⟩
    rw [spl_three_inv h]
    exact nums5_of ha hb hc ht.nodig
  · refine .inr ⟨fun ids => ?_, ?_⟩
    · unfold semT
      rcases hs : spl 46 core with _ | ⟨a, _ | ⟨b, _ | ⟨c, _ | ⟨d, r⟩⟩⟩⟩ <;> try rfl
      simp only []
      rw [if_neg]
      intro h
      rw [Bool.and_eq_true, Bool.and_eq_true] at h
      exact hg ⟨a, b, c, hs, h.1, h.2.1, h.2.2⟩
    · cases hn : nums5 (core ++ t) with
      | none => exact .inl rfl
      | some p =>
        obtain ⟨r, k⟩ := p
        obtain ⟨a, b, c, he, ha, hb, hc, rfl⟩ := nums5_inv hn
        have e1 := tw_app inCore core t (fun x hx => (inCore_iff x).2 (hcore x hx)) ht.not
        have bad : CoreT r → False := by
          intro hr
          have e2 := tw_app inCore (a ++ 46 :: (b ++ 46 :: c)) r (abc_core ha hb hc) hr.not
          rw [← he] at e2
          have : core = a ++ 46 :: (b ++ 46 :: c) := e1.1.symm.trans e2.1
          exact hg ⟨a, b, c, by rw [this]; exact spl_three (digs_no46 ha) (digs_no46 hb) (digs_no46 hc), ha, hb, hc⟩
        cases r with
        | nil => exact absurd (.inl rfl) bad
        | cons x r =>
          refine .inr ⟨x, r, _, rfl, fun e => bad (.inr ⟨x, r, rfl, .inl e⟩), fun e => bad (.inr ⟨x, r, rfl, .inr e⟩)⟩
theorem skB_self (c : UInt8) (r : BL) : skB c (c :: r) = true := by unfold skB; simp
theorem skB_diff {c d : UInt8} (h : d ≠ c) (r : BL) : skB c (d :: r) = false := ne_int h
theorem bld_bad {c : UInt8} {r k : BL} (h : c ≠ 43) : bldS (c :: r) k = some (c :: r, k) := by unfold bldS; rw [skB_diff h]; rfl
theorem semTl_bad {c : UInt8} {r k : BL} (h1 : c ≠ 43) (h2 : c ≠ 45) : semTl (c :: r) k = none := by
  have hp : preS (c :: r) k = some (c :: r, k ++ [2]) := by unfold preS; rw [skB_diff h2]; rfl
  unfold semTl; rw [hp]; simp only []
  rw [bld_bad h1]; rfl
theorem made_good (p : BL) : madeB [45] p = true ↔ Good anyS p := by
  rw [made_dash]; exact ⟨fun h => ⟨h.1, h.2, [], rfl⟩, fun h => ⟨h.1, h.2.1⟩⟩
theorem all_digs {p : BL} (h : p ≠ []) : p.all isD = digs p := by
  unfold digs; cases p with
  | nil => exact absurd rfl h
  | cons c r => simp
theorem id_good (p : BL) : idOK p = true ↔ Good identS p := by
  unfold idOK
  rw [Bool.and_eq_true, made_dash]
  constructor
  · rintro ⟨⟨h1, h2⟩, h3⟩
    refine ⟨h1, h2, ?_⟩
    unfold identS
    rw [all_digs h1]
    cases hd : digs p
    · exact ⟨_, rfl⟩
    · rw [hd] at h3
      have : plainN p = true := by
        have : numB p = true := by simpa using h3
        exact ((numB_iff p).1 this).2
      rw [if_pos rfl, if_pos this]; exact ⟨_, rfl⟩
  · rintro ⟨h1, h2, e, he⟩
    refine ⟨⟨h1, h2⟩, ?_⟩
    unfold identS at he
    rw [all_digs h1] at he
    cases hd : digs p
    · rfl
    · rw [hd, if_pos rfl] at he
      split at he
      · rename_i hp; unfold numB; rw [hd, hp]; rfl
      · cases he
theorem id_enc {p : BL} (h : Good identS p) : (identS p).getD [] = enc6 p := by
  obtain ⟨h1, _, e, he⟩ := h
  rw [he]
  unfold identS at he
  rw [all_digs h1] at he
  unfold enc6
  split at he
  · rename_i hd
    split at he
    · injection he with he; rw [if_pos hd, ← he]; rfl
    · cases he
  · rename_i hd
    injection he with he; rw [if_neg hd, ← he]; rfl
theorem bld_yes {b k : BL} (h : ∀ x ∈ spl 46 b, madeB [45] x = true) (h43 : ∀ x ∈ b, x ≠ 43) : bldS (43 :: b) k = some ([], k) := by
  unfold bldS; rw [skB_self, if_pos rfl]
  rcases ids_spl anyS _ b [] k (Nat.le_refl _) (.inl rfl) h43 with ⟨h1, h2⟩ | ⟨h1, _⟩
  · rw [List.append_nil] at h2
    show idsS anyS b k = _
    rw [h2]
    have : (spl 46 b).flatMap (fun p => (anyS p).getD []) = [] := by
      rw [List.flatMap_eq_nil_iff]; intro p _; rfl
    rw [this, List.append_nil]
  · exact absurd (fun p hp => (made_good p).1 (h p hp)) h1
/-- build metadata that the reference refuses: nothing comes of it -/
theorem bld_no {b k : BL} (h : ¬ ∀ x ∈ spl 46 b, madeB [45] x = true) : bldS (43 :: b) k = none ∨ ∃ c r k', bldS (43 :: b) k = some (c :: r, k') := by
  unfold bldS; rw [skB_self, if_pos rfl]
  show idsS anyS b k = none ∨ ∃ c r k', idsS anyS b k = some (c :: r, k')
  rcases cutL_cases 43 b with ⟨_, h43⟩ | ⟨x, y, rfl, h43, _⟩
  · rcases ids_spl anyS _ b [] k (Nat.le_refl _) (.inl rfl) h43 with ⟨h1, _⟩ | ⟨_, h2⟩
    · exact absurd (fun p hp => (made_good p).2 (h1 p hp)) h
    · rw [List.append_nil] at h2
      rcases h2 with h2 | ⟨c, r, k', h2, _⟩
      · exact .inl h2
      · exact .inr ⟨c, r, k', h2⟩
  · rcases ids_spl anyS _ x (43 :: y) k (Nat.le_refl _) (.inr ⟨y, rfl⟩) h43 with ⟨_, h2⟩ | ⟨_, h2⟩
    · exact .inr ⟨_, _, _, h2⟩
    · rcases h2 with h2 | ⟨c, r, k', h2, _⟩
      · exact .inl h2
      · exact .inr ⟨c, r, k', h2⟩
theorem no43_build {b : BL} (h : ∀ x ∈ spl 46 b, madeB [45] x = true) : ∀ x ∈ b, x ≠ 43 := by
  rcases cutL_cases 43 b with ⟨_, h43⟩ | ⟨x, y, rfl, h43, _⟩
  · exact h43
  · exfalso
    rcases cutL_cases 46 x with ⟨_, h46⟩ | ⟨_, _, _, _, _⟩
    · obtain ⟨q, qs, e⟩ := spl_head (c := 46) (a := x) (d := 43) (r := y) h46 (by decide)
      have := ((made_dash _).1 (h (x ++ 43 :: q) (by rw [e]; exact List.mem_cons_self ..))).2 43 (by simp)
      exact absurd this (by decide)
    · have key : ∀ (n : Nat) (x : BL), x.length ≤ n → (∀ p ∈ spl 46 (x ++ 43 :: y), madeB [45] p = true) → False := by
        intro n
        induction n with
        | zero =>
          intro x hn h
          have e : x = [] := List.eq_nil_of_length_eq_zero (by omega)
          subst e
          obtain ⟨q, qs, e⟩ := spl_head (c := 46) (a := []) (d := 43) (r := y) (fun x hx => by cases hx) (by decide)
          have := ((made_dash _).1 (h ([] ++ 43 :: q) (by rw [e]; exact List.mem_cons_self ..))).2 43 (by simp)
          exact absurd this (by decide)
        | succ n ih =>
          intro x hn h
          rcases cutL_cases 46 x with ⟨_, h46⟩ | ⟨a, r, rfl, h46, _⟩
          · obtain ⟨q, qs, e⟩ := spl_head (c := 46) (a := x) (d := 43) (r := y) h46 (by decide)
            have := ((made_dash _).1 (h (x ++ 43 :: q) (by rw [e]; exact List.mem_cons_self ..))).2 43 (by simp)
            exact absurd this (by decide)
          · rw [List.append_assoc, List.cons_append, spl_app h46] at h
            exact ih r (by simp at hn; omega) (fun p hp => h p (List.mem_cons_of_mem _ hp))
      exact key _ x (Nat.le_refl _) h
/-- build metadata behind what is read: 'none', or all of it is -/
def BT (t : BL) (good : Bool) : Prop := (t = [] ∧ good = true) ∨ ∃ b, t = 43 :: b ∧ good = (spl 46 b).all (madeB [45])
theorem bt_yes {t k : BL} (h : BT t true) : bldS t k = some ([], k) := by
  rcases h with ⟨rfl, _⟩ | ⟨b, rfl, hg⟩
  · rfl
  · have hg := List.all_eq_true.1 hg.symm
    exact bld_yes hg (no43_build hg)
theorem bt_no {t k : BL} (h : BT t false) : bldS t k = none ∨ ∃ c r k', bldS t k = some (c :: r, k') := by
  rcases h with ⟨_, h⟩ | ⟨b, rfl, hg⟩
  · cases h
  · refine bld_no (fun h => ?_)
    rw [List.all_eq_true.2 h] at hg; cases hg
theorem BT.plus {t : BL} {g : Bool} (h : BT t g) : PlusT t := by
  rcases h with ⟨rfl, _⟩ | ⟨b, rfl, _⟩
  · exact .inl rfl
  · exact .inr ⟨b, rfl⟩
def fin7 (o : Option (BL × BL)) : Option BL := match o with
  | none => none
  | some p7 => if p7.1 = [] then some p7.2 else none
theorem semTl_eq (r k : BL) : semTl r k = match preS r k with
  | none => none
  | some p6 => fin7 (bldS p6.1 p6.2) := by
  unfold semTl fin7
  cases preS r k with
  | none => rfl
  | some p6 => rfl
theorem fin_bad {o : Option (BL × BL)} (h : o = none ∨ ∃ c r k', o = some (c :: r, k')) : fin7 o = none := by
  rcases h with rfl | ⟨c, r, k', rfl⟩
  · rfl
  · rfl
/-- the tail without a prerelease -/
theorem tl_plain {t k : BL} {g : Bool} (h : BT t g) : semTl t k = if g = true then some (k ++ [2]) else none := by
  have hp : preS t k = some (t, k ++ [2]) := by
    unfold preS
    rcases h with ⟨rfl, _⟩ | ⟨b, rfl, _⟩
    · rfl
    · rw [skB_diff (by decide)]; rfl
  rw [semTl_eq, hp]
  cases g
  · exact fin_bad (bt_no h)
  · show fin7 (bldS t (k ++ [2])) = _
    rw [bt_yes h]; rfl
/-- the tail with one -/
theorem tl_pre {pre t k : BL} {g : Bool} (h : BT t g) (h43 : ∀ x ∈ pre, x ≠ 43) : semTl (45 :: (pre ++ t)) k = if (g && (spl 46 pre).all idOK) = true then some (k ++ (spl 46 pre).flatMap enc6) else none := by
  have hp : preS (45 :: (pre ++ t)) k = idsS identS (pre ++ t) k := by unfold preS; rw [skB_self]; rfl
  rw [semTl_eq, hp]
  rcases ids_spl identS _ pre t k (Nat.le_refl _) h.plus h43 with ⟨h1, h2⟩ | ⟨h1, h2⟩
  · have ha : (spl 46 pre).all idOK = true := List.all_eq_true.2 (fun p hp => (id_good p).2 (h1 p hp))
    have he : (spl 46 pre).flatMap (fun p => (identS p).getD []) = (spl 46 pre).flatMap enc6 := by
      have : ∀ L : List BL, (∀ p ∈ L, Good identS p) → L.flatMap (fun p => (identS p).getD []) = L.flatMap enc6 := by
        intro L
        induction L with
        | nil => intro _; rfl
        | cons p L ih => intro hL; rw [List.flatMap_cons, List.flatMap_cons, id_enc (hL p (by simp)), ih (fun q hq => hL q (by simp [hq]))]
      exact this _ h1
    rw [h2, ha, he, Bool.and_true]
    cases g
    · exact fin_bad (bt_no h)
    · show fin7 (bldS t _) = _
      rw [bt_yes h]; rfl
  · have ha : (spl 46 pre).all idOK = false := by
      cases ha : (spl 46 pre).all idOK
      · rfl
      · exact absurd (fun p hp => (id_good p).1 (List.all_eq_true.1 ha p hp)) h1
    rw [ha, Bool.and_false, if_neg (by simp)]
    rcases h2 with h2 | ⟨c, r, k', h2, hc⟩
    · rw [h2]
    · rw [h2]; show fin7 (bldS (c :: r) k') = none
      rw [bld_bad hc]; rfl
/-- what semS makes of what the reference reads -/
def SemRel (o : Option (List BL × List BL)) (k : Option BL) : Prop := match o with
  | none => k = none
  | some p => ∃ a b c, p.1 = [a, b, c] ∧ k = some (semk a b c p.2) ∧ numB a = true ∧ numB b = true ∧ numB c = true ∧ ∀ x ∈ p.2, idOK x = true
theorem sem_tail {core t : BL} (hcore : ∀ x ∈ core, x ≠ 43 ∧ x ≠ 45) (ht : CoreT t) (o : Bool) (ids : List BL) (hids : o = true → ∀ x ∈ ids, idOK x = true) (h : ∀ k, semTl t k = if o = true then some (k ++ prek ids) else none) :
    SemRel (if o = true then semT core ids else none) (semS (core ++ t)) := by
  rw [semS_eq]
  rcases nums_core core t hcore ht with ⟨a, b, c, hs, ha, hb, hc, hn⟩ | ⟨hT, hn⟩
  · rw [hn]; simp only []
    rw [h]
    cases o
    · exact rfl
    · rw [if_pos rfl, if_pos rfl]
      have : semT core ids = some ([a, b, c], ids) := by unfold semT; rw [hs]; simp [ha, hb, hc]
      rw [this]
      exact ⟨a, b, c, rfl, by unfold semk; simp, ha, hb, hc, hids rfl⟩
  · have : (if o = true then semT core ids else none) = none := by split; exact hT ids; rfl
    rw [this]
    rcases hn with hn | ⟨c, r, k, hn, h1, h2⟩
    · rw [hn]; rfl
    · rw [hn]; exact semTl_bad h1 h2
theorem prek_nil : prek [] = [2] := rfl
theorem prek_ids {ids : List BL} (h : ids ≠ []) : prek ids = ids.flatMap enc6 := by unfold prek; rw [if_neg h]
theorem sem_rel (l : BL) : SemRel (semR l) (semS l) := by
  have body : ∀ (bd t : BL) (g : Bool), (∀ x ∈ bd, x ≠ 43) → BT t g → SemRel (if g = true then semP bd else none) (semS (bd ++ t)) := by
    intro bd t g h43 hbt
    have hct : CoreT t := by
      rcases hbt.plus with h | ⟨b, h⟩
      · exact .inl h
      · exact .inr ⟨43, b, h, .inl rfl⟩
    rcases cutL_cases 45 bd with ⟨hc, h45⟩ | ⟨core, pre, rfl, h45, hc⟩
    · have e : semP bd = semT bd [] := by unfold semP; rw [hc]; rfl
      rw [e]
      exact sem_tail (fun x hx => ⟨h43 x hx, h45 x hx⟩) hct g [] (fun _ x hx => by cases hx) (fun k => by rw [tl_plain hbt, prek_nil])
    · have e : semP (core ++ 45 :: pre) = if (spl 46 pre).all idOK = true then semT core (spl 46 pre) else none := by unfold semP; rw [hc]; rfl
      rw [e]
      have := sem_tail (core := core) (t := 45 :: (pre ++ t)) (fun x hx => ⟨h43 x (by simp [hx]), h45 x hx⟩) (.inr ⟨45, _, rfl, .inr rfl⟩) (g && (spl 46 pre).all idOK) (spl 46 pre)
        (fun h x hx => by rw [Bool.and_eq_true] at h; exact List.all_eq_true.1 h.2 x hx) (fun k => by rw [tl_pre hbt (fun x hx => h43 x (by simp [hx])), prek_ids (spl_ne 46 pre)])
      rw [List.append_assoc, List.cons_append]
      cases g
      · simpa using this
      · cases ha : (spl 46 pre).all idOK
        · rw [ha] at this; simpa using this
        · rw [ha] at this; simpa using this
  rcases cutL_cases 43 l with ⟨hc, h43⟩ | ⟨bd, b, rfl, h43, hc⟩
  · have e : semR l = semP l := by unfold semR; rw [hc]; rfl
    have := body l [] true h43 (.inl ⟨rfl, rfl⟩)
    rw [List.append_nil] at this
    rw [e]; exact this
  · have e : semR (bd ++ 43 :: b) = if (spl 46 b).all (madeB [45]) = true then semP bd else none := by unfold semR; rw [hc]; rfl
    rw [e]
    exact body bd (43 :: b) _ h43 (.inr ⟨b, rfl, rfl⟩)
end Go.Proofs.YtceeilojcifgeaaDoor
