/-
  Debian versions: keys are ordered as the versions are. Plain mathematics.
-/
import Derived.Test.YtceeilojcifgeaaGreatDoorVerM
namespace Go.Proofs.YtceeilojcifgeaaGreatDoor

def notD (c : UInt8) : Bool := !isD c
/-- a character of a prefix without digits in a key; none: it may not stand there -/
def mark6 (c : UInt8) : Option UInt8 := if c = 126 then some 1 else if isL c = true then some c else if c = 46 ∨ c = 43 ∨ c = 45 then some (128 + c) else none
/-- the place of a character of a prefix without digits -/
def wgt (c : UInt8) : Int := if c = 126 then 0 else if isL c = true then 2 + (c.toNat : Int) else 300 + (c.toNat : Int)
def marks6 : BL → Option BL
  | [] => some []
  | c :: l => match mark6 c with
    | none => none
    | some m => (marks6 l).map (m :: ·)
def sgn (n : Int) : Int := if n < 0 then -1 else if n > 0 then 1 else 0
/-- how two prefixes are ordered -/
def prc : BL → BL → Int
  | [], [] => 0
  | [], d :: q => fst0 (sgn (1 - wgt d)) (prc [] q)
  | c :: p, [] => fst0 (sgn (wgt c - 1)) (prc p [])
  | c :: p, d :: q => fst0 (sgn (wgt c - wgt d)) (prc p q)
theorem wgt_ne1 (c : UInt8) : wgt c ≠ 1 := by unfold wgt; split; · decide
                                              split <;> omega
theorem mark_mono {c d m n : UInt8} (hc : mark6 c = some m) (hd : mark6 d = some n) : (sgn (wgt c - wgt d) = -1 ∧ m < n) ∨ (sgn (wgt c - wgt d) = 0 ∧ m = n) ∨ (sgn (wgt c - wgt d) = 1 ∧ n < m) := by
  have e : ∀ x : UInt8, isL x = true ↔ _ := isL_iff
  rw [UInt8.lt_iff_toNat_lt, UInt8.lt_iff_toNat_lt, ← UInt8.toNat_inj]
  have key : ∀ {x y : UInt8}, mark6 x = some y → (wgt x = 0 ∧ y.toNat = 1) ∨ (wgt x = 2 + (x.toNat : Int) ∧ y.toNat = x.toNat ∧ 65 ≤ x.toNat ∧ x.toNat ≤ 122) ∨ (wgt x = 300 + (x.toNat : Int) ∧ y.toNat = 128 + x.toNat ∧ x.toNat ≤ 46) := by
    intro x y h
    unfold mark6 at h
    unfold wgt
    split at h
    · rename_i k; injection h with h; subst h; rw [if_pos k]; exact .inl ⟨rfl, rfl⟩
    · rename_i k0; rw [if_neg k0]
      split at h
      · rename_i k; injection h with h; subst h; rw [if_pos k]; have := (isL_iff x).1 k; exact .inr (.inl ⟨rfl, rfl, by omega, by omega⟩)
      · rename_i k; rw [if_neg k]
        split at h
        · rename_i k2; injection h with h; subst h
          rcases k2 with rfl | rfl | rfl <;> exact .inr (.inr ⟨rfl, by decide, by decide⟩)
        · cases h
  have s1 : ∀ z : Int, z < 0 → sgn z = -1 := fun z h => if_pos h
  have s2 : ∀ z : Int, z > 0 → sgn z = 1 := fun z h => by unfold sgn; rw [if_neg (by omega), if_pos h]
  have s3 : ∀ z : Int, z = 0 → sgn z = 0 := fun z h => by subst h; rfl
  have h1 := key hc; have h2 := key hd
  rcases Int.lt_trichotomy (wgt c) (wgt d) with h | h | h
  · exact .inl ⟨s1 _ (by omega), by omega⟩
  · exact .inr (.inl ⟨s3 _ (by omega), by omega⟩)
  · exact .inr (.inr ⟨s2 _ (by omega), by omega⟩)
theorem mark_end {d n : UInt8} (hd : mark6 d = some n) : (sgn (1 - wgt d) = -1 ∧ sgn (wgt d - 1) = 1 ∧ (2 : UInt8) < n) ∨ (sgn (1 - wgt d) = 1 ∧ sgn (wgt d - 1) = -1 ∧ n < 2) := by
  unfold mark6 at hd
  unfold wgt
  split at hd
  · rename_i k; injection hd with h; subst h; rw [if_pos k]; exact .inr ⟨by decide, by decide, by decide⟩
  · rename_i k0; rw [if_neg k0]
    split at hd
    · rename_i k; injection hd with h; subst h; rw [if_pos k]; have := (isL_iff d).1 k
      refine .inl ⟨?_, ?_, ?_⟩
      · unfold sgn; rw [if_pos (by omega)]
      · unfold sgn; rw [if_neg (by omega), if_pos (by omega)]
      · rw [UInt8.lt_iff_toNat_lt]; show 2 < _; omega
    · rename_i k; rw [if_neg k]
      split at hd
      · rename_i k2; injection hd with h; subst h
        rcases k2 with rfl | rfl | rfl <;> exact .inl ⟨by decide, by decide, by decide⟩
      · cases hd
theorem sgn_self (z : Int) : sgn (z - z) = 0 := by rw [Int.sub_self]; rfl
theorem lx_marks : ∀ (p q p' q' x y : BL), marks6 p = some p' → marks6 q = some q' → lx (p' ++ 2 :: x) (q' ++ 2 :: y) = fst0 (prc p q) (lx x y)
  | [], [], p', q', x, y, h1, h2 => by
    injection h1 with h1; injection h2 with h2; subst h1 h2
    rw [List.nil_append, List.nil_append, lx_cons]; unfold prc; rfl
  | [], d :: q, p', q', x, y, h1, h2 => by
    injection h1 with h1; subst h1
    unfold marks6 at h2
    cases hm : mark6 d with
    | none => rw [hm] at h2; cases h2
    | some n =>
      rw [hm] at h2
      obtain ⟨r, hr, rfl⟩ := Option.map_eq_some_iff.1 h2
      unfold prc
      rw [List.nil_append, List.cons_append]
      rcases mark_end hm with ⟨e1, e2, e3⟩ | ⟨e1, e2, e3⟩
      · rw [lx_cons_lt e3, e1]; rfl
      · rw [lx_cons_gt e3, e1]; rfl
  | c :: p, [], p', q', x, y, h1, h2 => by
    injection h2 with h2; subst h2
    unfold marks6 at h1
    cases hm : mark6 c with
    | none => rw [hm] at h1; cases h1
    | some n =>
      rw [hm] at h1
      obtain ⟨r, hr, rfl⟩ := Option.map_eq_some_iff.1 h1
      unfold prc
      rw [List.nil_append, List.cons_append]
      rcases mark_end hm with ⟨e1, e2, e3⟩ | ⟨e1, e2, e3⟩
      · rw [lx_cons_gt e3, e2]; rfl
      · rw [lx_cons_lt e3, e2]; rfl
  | c :: p, d :: q, p', q', x, y, h1, h2 => by
    unfold marks6 at h1 h2
    cases hm : mark6 c with
    | none => rw [hm] at h1; cases h1
    | some m =>
      cases hn : mark6 d with
      | none => rw [hn] at h2; cases h2
      | some n =>
        rw [hm] at h1; rw [hn] at h2
        obtain ⟨r, hr, rfl⟩ := Option.map_eq_some_iff.1 h1
        obtain ⟨s, hs, rfl⟩ := Option.map_eq_some_iff.1 h2
        unfold prc
        rw [List.cons_append, List.cons_append]
        rcases mark_mono hm hn with ⟨e1, e3⟩ | ⟨e1, e3⟩ | ⟨e1, e3⟩
        · rw [lx_cons_lt e3, e1]; rfl
        · subst e3; rw [lx_cons, e1, lx_marks p q r s x y hr hs]; rfl
        · rw [lx_cons_gt e3, e1]; rfl
/-- what follows the first prefix and the first number -/
def rest6 (s : BL) : BL := (s.dropWhile notD).dropWhile isD
theorem rest6_len (s : BL) (h : s ≠ []) : (rest6 s).length < s.length := by
  unfold rest6
  have h1 := tw_len notD s; have h2 := tw_len isD (s.dropWhile notD)
  by_cases k : (s.takeWhile notD).length = 0
  · cases s with
    | nil => exact absurd rfl h
    | cons c l =>
      by_cases hc : isD c = true
      · have e : (c :: l).dropWhile notD = c :: l := by rw [List.dropWhile_cons]; simp [notD, hc]
        rw [e] at h2 ⊢
        have : 0 < ((c :: l).takeWhile isD).length := by rw [List.takeWhile_cons, hc]; simp
        omega
      · have : 0 < ((c :: l).takeWhile notD).length := by rw [List.takeWhile_cons]; simp [notD, hc]
        omega
  · omega
theorem rest6_nil : rest6 [] = [] := rfl
/-- the digits of the first number -/
def dig6 (s : BL) : BL := (s.dropWhile notD).takeWhile isD
/-- how upstream versions, and revisions, are ordered -/
def parc (a b : BL) : Int := if h : a = [] ∧ b = [] then 0 else fst0 (prc (a.takeWhile notD) (b.takeWhile notD)) (fst0 (nord (dig6 a) (dig6 b)) (parc (rest6 a) (rest6 b)))
termination_by a.length + b.length
decreasing_by
  have h1 := rest6_len a; have h2 := rest6_len b
  by_cases ha : a = []
  · have hb : b ≠ [] := fun e => h ⟨ha, e⟩
    subst ha; rw [rest6_nil]; have := h2 hb; simp; omega
  · have := h1 ha
    by_cases hb : b = []
    · subst hb; rw [rest6_nil]; simp; omega
    · have := h2 hb; omega
/-- a part in a key -/
def part6 (s : BL) : Option BL := match marks6 (s.takeWhile notD) with
  | none => none
  | some p => if _h : rest6 s = [] then some (p ++ 2 :: (num (dig6 s) ++ [2])) else (part6 (rest6 s)).map (fun q => p ++ 2 :: (num (dig6 s) ++ q))
termination_by s.length
decreasing_by exact rest6_len s (fun e => _h (by rw [e]; rfl))
theorem parc_step (a b : BL) : parc a b = fst0 (prc (a.takeWhile notD) (b.takeWhile notD)) (fst0 (nord (dig6 a) (dig6 b)) (parc (rest6 a) (rest6 b))) := by
  by_cases h : a = [] ∧ b = []
  · obtain ⟨rfl, rfl⟩ := h
    have e : parc [] [] = 0 := by rw [parc, dif_pos ⟨rfl, rfl⟩]
    rw [rest6_nil, e]
    show 0 = fst0 (prc [] []) (fst0 (nord [] []) 0)
    rw [nord_refl]; unfold prc; rfl
  · rw [parc, dif_neg h]
theorem parc_nil : parc [] [] = 0 := by rw [parc, dif_pos ⟨rfl, rfl⟩]
/-- nothing, or a part that begins with no digit -/
def tail6 (s : BL) : Option BL := if s = [] then some [2] else part6 s
def NoDig (s : BL) : Prop := ∀ c r, s = c :: r → isD c = false
theorem rest6_nodig (s : BL) : NoDig (rest6 s) := fun c r h => dw_head isD _ c r h
theorem part6_step (s k : BL) (h : part6 s = some k) : ∃ p t, marks6 (s.takeWhile notD) = some p ∧ tail6 (rest6 s) = some t ∧ k = p ++ 2 :: (num (dig6 s) ++ t) := by
  rw [part6] at h
  cases hm : marks6 (s.takeWhile notD) with
  | none => rw [hm] at h; cases h
  | some p =>
    rw [hm] at h
    by_cases hr : rest6 s = []
    · simp only [hr, dite_true] at h; injection h with h
      exact ⟨p, [2], rfl, by unfold tail6; rw [if_pos hr], h.symm⟩
    · simp only [hr, dite_false] at h
      obtain ⟨q, hq, rfl⟩ := Option.map_eq_some_iff.1 h
      exact ⟨p, q, rfl, by unfold tail6; rw [if_neg hr, hq], rfl⟩
theorem dig6_len (s : BL) : (dig6 s).length ≤ s.length := by
  unfold dig6
  have h1 := tw_len notD s; have h2 := tw_len isD (s.dropWhile notD); omega
theorem rest6_le (s : BL) : (rest6 s).length ≤ s.length := by
  unfold rest6
  have h1 := tw_len notD s; have h2 := tw_len isD (s.dropWhile notD); omega
theorem tail_first {c : UInt8} {r k : BL} (h : isD c = false) (hk : part6 (c :: r) = some k) : ∃ m t, mark6 c = some m ∧ k = m :: t := by
  obtain ⟨p, t, hp, -, rfl⟩ := part6_step _ _ hk
  have e : (c :: r).takeWhile notD = c :: r.takeWhile notD := by rw [List.takeWhile_cons]; simp [notD, h]
  rw [e] at hp
  unfold marks6 at hp
  cases hm : mark6 c with
  | none => rw [hm] at hp; cases hp
  | some m =>
    rw [hm] at hp
    obtain ⟨q, hq, rfl⟩ := Option.map_eq_some_iff.1 hp
    exact ⟨m, _, rfl, rfl⟩
theorem prc_nil_cons {d : UInt8} (h : wgt d ≠ 1) (q : BL) : prc [] (d :: q) = sgn (1 - wgt d) := by
  unfold prc; refine fst0_ne ?_ _; unfold sgn; split <;> (try split) <;> omega
theorem prc_cons_nil {d : UInt8} (h : wgt d ≠ 1) (q : BL) : prc (d :: q) [] = sgn (wgt d - 1) := by
  unfold prc; refine fst0_ne ?_ _; unfold sgn; split <;> (try split) <;> omega
theorem lx_tail : ∀ (n : Nat) (a b ka kb x y : BL), a.length + b.length ≤ n → NoDig a → NoDig b → a.length ≤ 255 → b.length ≤ 255 → tail6 a = some ka → tail6 b = some kb → lx (ka ++ x) (kb ++ y) = fst0 (parc a b) (lx x y) := by
  intro n
  induction n with
  | zero =>
    intro a b ka kb x y hn _ _ _ _ ha hb
    have ea : a = [] := List.eq_nil_of_length_eq_zero (by omega)
    have eb : b = [] := List.eq_nil_of_length_eq_zero (by omega)
    subst ea eb
    have e1 : tail6 [] = some [2] := if_pos rfl
    rw [e1] at ha hb
    injection ha with ha; injection hb with hb; subst ha hb
    rw [parc_nil, List.cons_append, List.cons_append, lx_cons]; rfl
  | succ n ih =>
    intro a b ka kb x y hn da db la lb ha hb
    have e1 : tail6 [] = some [2] := if_pos rfl
    cases a with
    | nil =>
      rw [e1] at ha; injection ha with ha; subst ha
      cases b with
      | nil =>
        rw [e1] at hb; injection hb with hb; subst hb
        rw [parc_nil, List.cons_append, List.cons_append, lx_cons]; rfl
      | cons d b =>
        have hb' : part6 (d :: b) = some kb := by unfold tail6 at hb; rwa [if_neg (by simp)] at hb
        obtain ⟨m, t, hm, rfl⟩ := tail_first (db d b rfl) hb'
        have e : (d :: b).takeWhile notD = d :: b.takeWhile notD := by rw [List.takeWhile_cons]; simp [notD, db d b rfl]
        rw [parc_step, e, show ([] : BL).takeWhile notD = [] from rfl, prc_nil_cons (wgt_ne1 d), List.cons_append, List.cons_append]
        rcases mark_end hm with ⟨e1, e2, e3⟩ | ⟨e1, e2, e3⟩
        · rw [lx_cons_lt e3, e1]; rfl
        · rw [lx_cons_gt e3, e1]; rfl
    | cons c a =>
      have ha' : part6 (c :: a) = some ka := by unfold tail6 at ha; rwa [if_neg (by simp)] at ha
      cases b with
      | nil =>
        rw [e1] at hb; injection hb with hb; subst hb
        obtain ⟨m, t, hm, rfl⟩ := tail_first (da c a rfl) ha'
        have e : (c :: a).takeWhile notD = c :: a.takeWhile notD := by rw [List.takeWhile_cons]; simp [notD, da c a rfl]
        rw [parc_step, e, show ([] : BL).takeWhile notD = [] from rfl, prc_cons_nil (wgt_ne1 c), List.cons_append, List.cons_append]
        rcases mark_end hm with ⟨e1, e2, e3⟩ | ⟨e1, e2, e3⟩
        · rw [lx_cons_gt e3, e2]; rfl
        · rw [lx_cons_lt e3, e2]; rfl
      | cons d b =>
        have hb' : part6 (d :: b) = some kb := by unfold tail6 at hb; rwa [if_neg (by simp)] at hb
        obtain ⟨p, t, hp, ht, rfl⟩ := part6_step _ _ ha'
        obtain ⟨q, u, hq, hu, rfl⟩ := part6_step _ _ hb'
        have r1 := rest6_len (c :: a) (by simp); have r2 := rest6_len (d :: b) (by simp)
        have d1 := dig6_len (c :: a); have d2 := dig6_len (d :: b)
        rw [parc_step, fst0_assoc, fst0_assoc]
        rw [List.append_assoc, List.append_assoc, List.cons_append, List.cons_append, lx_marks _ _ _ _ _ _ hp hq, List.append_assoc, List.append_assoc, num_app _ _ _ _ (by omega) (by omega)]
        rw [ih _ _ _ _ x y (by omega) (rest6_nodig _) (rest6_nodig _) (by omega) (by omega) ht hu]
theorem lx_part (a b ka kb x y : BL) (la : a.length ≤ 255) (lb : b.length ≤ 255) (ha : part6 a = some ka) (hb : part6 b = some kb) : lx (ka ++ x) (kb ++ y) = fst0 (parc a b) (lx x y) := by
  obtain ⟨p, t, hp, ht, rfl⟩ := part6_step _ _ ha
  obtain ⟨q, u, hq, hu, rfl⟩ := part6_step _ _ hb
  have d1 := dig6_len a; have d2 := dig6_len b
  have r1 := rest6_le a; have r2 := rest6_le b
  rw [parc_step, fst0_assoc, fst0_assoc]
  rw [List.append_assoc, List.append_assoc, List.cons_append, List.cons_append, lx_marks _ _ _ _ _ _ hp hq, List.append_assoc, List.append_assoc, num_app _ _ _ _ (by omega) (by omega)]
  rw [lx_tail _ _ _ _ _ x y (Nat.le_refl _) (rest6_nodig _) (rest6_nodig _) (by omega) (by omega) ht hu]
theorem lx_deb (e e' u u' r r' k1 k2 k1' k2' : BL) (l1 : e.length ≤ 255) (l2 : e'.length ≤ 255) (l3 : u.length ≤ 255) (l4 : u'.length ≤ 255) (l5 : r.length ≤ 255) (l6 : r'.length ≤ 255)
    (h1 : part6 u = some k1) (h2 : part6 r = some k2) (h1' : part6 u' = some k1') (h2' : part6 r' = some k2') :
    lx (num e ++ (k1 ++ k2)) (num e' ++ (k1' ++ k2')) = fst0 (nord e e') (fst0 (parc u u') (parc r r')) := by
  rw [num_app _ _ _ _ l1 l2, lx_part _ _ _ _ _ _ l3 l4 h1 h1']
  have := lx_part r r' k2 k2' [] [] l5 l6 h2 h2'
  rw [List.append_nil, List.append_nil] at this
  rw [this]
  have e0 : fst0 (parc r r') (lx [] []) = parc r r' := by unfold fst0; show (if parc r r' = 0 then 0 else _) = _; split <;> simp [*]
  rw [e0]
end Go.Proofs.YtceeilojcifgeaaGreatDoor
