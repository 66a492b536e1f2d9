/-
  Versions: a semantic version is read as the reference reads it. Plain mathematics.
-/
import Derived.Test.YtceeilojcifgeaaGreatDoorVrfE
import Derived.Test.YtceeilojcifgeaaGreatDoorVerU
namespace Go.Proofs.YtceeilojcifgeaaGreatDoor

theorem isI_not {c : UInt8} (h : isI c = true) : c ≠ 46 ∧ c ≠ 43 := by
  constructor <;> (rintro rfl; exact absurd h (by decide))
theorem okB_dash (c : UInt8) : okB [45] c = isI c := by
  unfold okB isI
  have : ([45] : BL).contains c = (c == 45) := by rw [Bool.eq_iff_iff]; simp
  rw [this, Bool.or_assoc]
theorem made_dash (p : BL) : madeB [45] p = true ↔ p ≠ [] ∧ ∀ c ∈ p, isI c = true := by
  rw [madeB_iff]; constructor
  · rintro ⟨h1, h2⟩; exact ⟨h2, fun c hc => by rw [← okB_dash]; exact h1 c hc⟩
  · rintro ⟨h1, h2⟩; exact ⟨fun c hc => by rw [okB_dash]; exact h2 c hc, h1⟩
def Good (f : BL → Option BL) (p : BL) : Prop := p ≠ [] ∧ (∀ c ∈ p, isI c = true) ∧ ∃ e, f p = some e
/-- what may follow -/
def PlusT (t : BL) : Prop := t = [] ∨ ∃ b, t = 43 :: b
theorem PlusT.head {t : BL} (h : PlusT t) : ∀ c r, t = c :: r → isI c = false := by
  intro c r e
  rcases h with rfl | ⟨b, rfl⟩
  · cases e
  · injection e with e _; subst e; decide
theorem PlusT.dot {t : BL} (h : PlusT t) : skB 46 t = false := by
  rcases h with rfl | ⟨b, rfl⟩
  · rfl
  · rfl
theorem tw_split (p : UInt8 → Bool) : ∀ (x t : BL), (∀ c r, t = c :: r → p c = false) → (x ++ t).takeWhile p = x.takeWhile p ∧ (x ++ t).dropWhile p = x.dropWhile p ++ t
  | [], t, h => by
    have := tw_app p [] t (fun c hc => by cases hc) h
    rw [List.nil_append] at this ⊢; rw [this.1, this.2]; exact ⟨rfl, rfl⟩
  | c :: x, t, h => by
    rw [List.cons_append, List.takeWhile_cons, List.dropWhile_cons, List.takeWhile_cons, List.dropWhile_cons]
    obtain ⟨e1, e2⟩ := tw_split p x t h
    cases hc : p c
    · exact ⟨rfl, rfl⟩
    · simp [e1, e2]
theorem tw_join (p : UInt8 → Bool) (x : BL) : x = x.takeWhile p ++ x.dropWhile p := (List.takeWhile_append_dropWhile).symm
theorem spl_head {c : UInt8} : ∀ {a : BL} {d : UInt8} {r : BL}, (∀ x ∈ a, x ≠ c) → d ≠ c → ∃ q qs, spl c (a ++ d :: r) = (a ++ d :: q) :: qs
  | [], d, r, _, hd => by
    rw [List.nil_append]; unfold spl; rw [if_neg hd]
    cases h : spl c r with
    | nil => exact absurd h (spl_ne c r)
    | cons p ps => exact ⟨p, ps, rfl⟩
  | b :: a, d, r, h, hd => by
    obtain ⟨q, qs, e⟩ := spl_head (fun x hx => h x (by simp [hx])) hd (a := a) (r := r)
    rw [List.cons_append]; unfold spl; rw [if_neg (h b (by simp)), e]
    exact ⟨q, qs, rfl⟩
theorem ids_spl (f : BL → Option BL) : ∀ (n : Nat) (x t k : BL), x.length ≤ n → PlusT t → (∀ c ∈ x, c ≠ 43) →
    ((∀ p ∈ spl 46 x, Good f p) ∧ idsS f (x ++ t) k = some (t, k ++ (spl 46 x).flatMap (fun p => (f p).getD []))) ∨
    ((¬ ∀ p ∈ spl 46 x, Good f p) ∧ (idsS f (x ++ t) k = none ∨ ∃ c r k', idsS f (x ++ t) k = some (c :: r, k') ∧ c ≠ 43)) := by
  intro n
  induction n with
  | zero =>
    intro x t k hn ht hx
    have e : x = [] := List.eq_nil_of_length_eq_zero (by omega)
    subst e
    refine .inr ⟨fun h => (h [] (by simp [spl])).1 rfl, .inl (idsS_none ?_)⟩
    rw [(tw_split isI [] t ht.head).1]; rfl
  | succ n ih =>
    intro x t k hn ht hx
    obtain ⟨e1, e2⟩ := tw_split isI x t ht.head
    by_cases h0 : x.takeWhile isI = []
    · refine .inr ⟨fun h => ?_, .inl (idsS_none (by rw [e1, h0]))⟩
      cases x with
      | nil => exact (h [] (by simp [spl])).1 rfl
      | cons c x =>
        have hc : isI c = false := by
          rw [List.takeWhile_cons] at h0
          cases hc : isI c
          · rfl
          · rw [hc] at h0; simp at h0
        by_cases h46 : c = 46
        · subst h46
          exact (h [] (by unfold spl; rw [if_pos rfl]; simp)).1 rfl
        · obtain ⟨q, qs, e⟩ := spl_head (c := 46) (a := []) (r := x) (fun x hx => by cases hx) h46
          have := (h ([] ++ c :: q) (by rw [show c :: x = [] ++ c :: x from rfl, e]; exact List.mem_cons_self ..)).2.1 c (by simp)
          rw [hc] at this; cases this
    · have hw : (x ++ t).takeWhile isI ≠ [] := by rw [e1]; exact h0
      have hwI := tw_all isI x
      have hjoin := tw_join isI x
      cases hr : x.dropWhile isI with
      | nil =>
        have hxw : x = x.takeWhile isI := by rw [hr, List.append_nil] at hjoin; exact hjoin
        have hs : spl 46 x = [x] := spl_one (fun c hc => (isI_not (hwI c (by rw [← hxw]; exact hc))).1)
        have hsk : skB 46 ((x ++ t).dropWhile isI) = false := by rw [e2, hr]; exact ht.dot
        rw [hs]
        cases hf : f x with
        | none =>
          refine .inr ⟨fun h => ?_, .inl (idsS_no hw (by rw [e1, ← hxw]; exact hf))⟩
          obtain ⟨_, _, e, he⟩ := h x (by simp); rw [hf] at he; cases he
        | some e =>
          refine .inl ⟨fun p hp => ?_, ?_⟩
          · rw [List.mem_singleton] at hp; subst hp
            exact ⟨by rw [hxw]; exact h0, fun c hc => hwI c (by rw [← hxw]; exact hc), e, hf⟩
          · rw [idsS_end hw (by rw [e1, ← hxw]; exact hf) hsk, e2, hr]; simp [hf]
      | cons c x' =>
        rw [hr] at hjoin
        have hcI := dw_head isI x c x' hr
        have hlen := congrArg List.length hjoin
        rw [List.length_append, List.length_cons] at hlen
        by_cases h46 : c = 46
        · subst h46
          have hsk : skB 46 ((x ++ t).dropWhile isI) = true := by rw [e2, hr]; rfl
          have hdr : ((x ++ t).dropWhile isI).drop 1 = x' ++ t := by rw [e2, hr]; rfl
          have hs : spl 46 x = x.takeWhile isI :: spl 46 x' := by
            conv => lhs; rw [hjoin]
            exact spl_app (fun c hc => (isI_not (hwI c hc)).1) x'
          cases hf : f (x.takeWhile isI) with
          | none =>
            refine .inr ⟨fun h => ?_, .inl (idsS_no hw (by rw [e1]; exact hf))⟩
            obtain ⟨_, _, e, he⟩ := h (x.takeWhile isI) (by rw [hs]; simp); rw [hf] at he; cases he
          | some e =>
            rw [idsS_on hw (by rw [e1]; exact hf) hsk, hdr]
            rcases ih x' t (k ++ e) (by omega) ht (fun c hc => hx c (by rw [hjoin]; simp [hc])) with ⟨h1, h2⟩ | ⟨h1, h2⟩
            · refine .inl ⟨fun p hp => ?_, ?_⟩
              · rw [hs] at hp
                rcases List.mem_cons.1 hp with rfl | hp
                · exact ⟨h0, hwI, e, hf⟩
                · exact h1 p hp
              · rw [h2, hs, List.flatMap_cons, hf]; simp
            · exact .inr ⟨fun h => h1 (fun p hp => h p (by rw [hs]; simp [hp])), h2⟩
        · have hsk : skB 46 ((x ++ t).dropWhile isI) = false := by
            rw [e2, hr]; unfold skB
            show ((c.toNat : Int) == _) = false
            exact ne_int (d := 46) h46
          obtain ⟨q, qs, hs⟩ := spl_head (c := 46) (a := x.takeWhile isI) (r := x') (fun c hc => (isI_not (hwI c hc)).1) h46
          rw [← hjoin] at hs
          refine .inr ⟨fun h => ?_, ?_⟩
          · have := (h (x.takeWhile isI ++ c :: q) (by rw [hs]; exact List.mem_cons_self ..)).2.1 c (by simp)
            rw [hcI] at this; cases this
          · cases hf : f (x.takeWhile isI) with
            | none => exact .inl (idsS_no hw (by rw [e1]; exact hf))
            | some e => exact .inr ⟨c, x' ++ t, k ++ e, by rw [idsS_end hw (by rw [e1]; exact hf) hsk, e2, hr]; rfl, hx c (by rw [hjoin]; simp)⟩
/-- the five steps through the three numbers -/
def nums5 (l : BL) : Option (BL × BL) := match pnumS l [] with
  | none => none
  | some p1 => match skS 46 p1.1 p1.2 with
    | none => none
    | some p2 => match pnumS p2.1 p2.2 with
      | none => none
      | some p3 => match skS 46 p3.1 p3.2 with
        | none => none
        | some p4 => pnumS p4.1 p4.2
def semTl (r k : BL) : Option BL := match preS r k with
  | none => none
  | some p6 => match bldS p6.1 p6.2 with
    | none => none
    | some p7 => if p7.1 = [] then some p7.2 else none
theorem semS_eq (l : BL) : semS l = match nums5 l with
  | none => none
  | some p => semTl p.1 p.2 := by
  unfold semS nums5 semTl
  cases pnumS l [] with
  | none => rfl
  | some p1 =>
    simp only []
    cases skS 46 p1.1 p1.2 with
    | none => rfl
    | some p2 =>
      simp only []
      cases pnumS p2.1 p2.2 with
      | none => rfl
      | some p3 =>
        simp only []
        cases skS 46 p3.1 p3.2 with
        | none => rfl
        | some p4 => rfl
theorem numB_iff (d : BL) : numB d = true ↔ (∀ c ∈ d, isD c = true) ∧ plainN d = true := by
  unfold numB; rw [Bool.and_eq_true, digs_iff]
  constructor
  · rintro ⟨⟨h, _⟩, h2⟩; exact ⟨h, h2⟩
  · rintro ⟨h, h2⟩; exact ⟨⟨h, by rintro rfl; cases h2⟩, h2⟩
theorem pnumS_inv {l k r k' : BL} (h : pnumS l k = some (r, k')) : ∃ d, l = d ++ r ∧ numB d = true ∧ k' = k ++ num d := by
  unfold pnumS at h
  split at h
  · rename_i hp
    injection h with h; injection h with h1 h2
    exact ⟨l.takeWhile isD, by rw [← h1]; exact tw_join isD l, (numB_iff _).2 ⟨tw_all isD l, hp⟩, h2.symm⟩
  · cases h
theorem pnumS_of {d r k : BL} (hd : numB d = true) (hr : ∀ c q, r = c :: q → isD c = false) : pnumS (d ++ r) k = some (r, k ++ num d) := by
  obtain ⟨h1, h2⟩ := (numB_iff d).1 hd
  obtain ⟨e1, e2⟩ := tw_app isD d r h1 hr
  unfold pnumS; rw [e1, e2, if_pos h2]
theorem skS_inv {c : UInt8} {l k r k' : BL} (h : skS c l k = some (r, k')) : l = c :: r ∧ k' = k := by
  unfold skS at h
  split at h
  · rename_i hp
    injection h with h; injection h with h1 h2
    cases l with
    | nil => cases hp
    | cons x l =>
      have : x = c := by
        have : (x.toNat : Int) = (c.toNat : Int) := by simpa [skB] using hp
        exact UInt8.toNat_inj.1 (by omega)
      subst this; exact ⟨by rw [← h1]; rfl, h2.symm⟩
  · cases h
theorem skS_of (c : UInt8) (r k : BL) : skS c (c :: r) k = some (r, k) := by unfold skS skB; simp
theorem nums5_inv {l r k : BL} (h : nums5 l = some (r, k)) : ∃ a b c, l = (a ++ 46 :: (b ++ 46 :: c)) ++ r ∧ numB a = true ∧ numB b = true ∧ numB c = true ∧ k = num a ++ (num b ++ num c) := by
  unfold nums5 at h
  cases h1 : pnumS l [] with
  | none => rw [h1] at h; cases h
  | some p1 =>
    rw [h1] at h; simp only [] at h
    obtain ⟨l1, k1⟩ := p1
    obtain ⟨a, rfl, ha, rfl⟩ := pnumS_inv h1
    cases h2 : skS 46 l1 ([] ++ num a) with
    | none => rw [h2] at h; cases h
    | some p2 =>
      rw [h2] at h; simp only [] at h
      obtain ⟨l2, k2⟩ := p2
      obtain ⟨rfl, rfl⟩ := skS_inv h2
      cases h3 : pnumS l2 ([] ++ num a) with
      | none => rw [h3] at h; cases h
      | some p3 =>
        rw [h3] at h; simp only [] at h
        obtain ⟨l3, k3⟩ := p3
        obtain ⟨b, rfl, hb, rfl⟩ := pnumS_inv h3
        cases h4 : skS 46 l3 ([] ++ num a ++ num b) with
        | none => rw [h4] at h; cases h
        | some p4 =>
          rw [h4] at h; simp only [] at h
          obtain ⟨l4, k4⟩ := p4
          obtain ⟨rfl, rfl⟩ := skS_inv h4
          obtain ⟨c, rfl, hc, rfl⟩ := pnumS_inv h
          exact ⟨a, b, c, by simp, ha, hb, hc, by simp⟩
theorem dot_nodig (r : BL) : ∀ c q, (46 : UInt8) :: r = c :: q → isD c = false := by
  intro c q e; injection e with e _; subst e; decide
theorem nums5_of {a b c r : BL} (ha : numB a = true) (hb : numB b = true) (hc : numB c = true) (hr : ∀ x q, r = x :: q → isD x = false) :
    nums5 ((a ++ 46 :: (b ++ 46 :: c)) ++ r) = some (r, num a ++ (num b ++ num c)) := by
  unfold nums5
  rw [List.append_assoc, List.cons_append, List.append_assoc, List.cons_append, pnumS_of ha (dot_nodig _)]
  simp only []
  rw [skS_of]
  simp only []
  rw [pnumS_of hb (dot_nodig _)]
  simp only []
  rw [skS_of]
  simp only []
  rw [pnumS_of hc hr]; simp
theorem digs_no46 {d : BL} (h : numB d = true) : ∀ x ∈ d, x ≠ 46 := by
  intro x hx e; subst e; exact absurd (((numB_iff d).1 h).1 _ hx) (by decide)
theorem spl_three {a b c : BL} (ha : ∀ x ∈ a, x ≠ 46) (hb : ∀ x ∈ b, x ≠ 46) (hc : ∀ x ∈ c, x ≠ 46) : spl 46 (a ++ 46 :: (b ++ 46 :: c)) = [a, b, c] := by
  rw [spl_app ha, spl_app hb, spl_one hc]
theorem spl_join (c : UInt8) : ∀ (l : BL) (p : BL) (ps : List BL), spl c l = p :: ps → (∀ x ∈ p, x ≠ c) ∧ (ps = [] ∧ l = p ∨ ∃ r, l = p ++ c :: r ∧ spl c r = ps)
  | [], p, ps, h => by
    rw [show spl c [] = [[]] from rfl] at h; injection h with h1 h2; subst h1 h2
    exact ⟨(fun x hx => by cases hx), .inl ⟨rfl, rfl⟩⟩
  | b :: l, p, ps, h => by
    unfold spl at h
    by_cases hb : b = c
    · rw [if_pos hb] at h; injection h with h1 h2; subst h1 hb
      exact ⟨(fun x hx => by cases hx), .inr ⟨l, rfl, h2⟩⟩
    · rw [if_neg hb] at h
      cases hs : spl c l with
      | nil => exact absurd hs (spl_ne c l)
      | cons q qs =>
        rw [hs] at h; injection h with h1 h2; subst h1 h2
        obtain ⟨i1, i2⟩ := spl_join c l q qs hs
        refine ⟨fun x hx => ?_, ?_⟩
        · rcases List.mem_cons.1 hx with rfl | hx
          · exact hb
          · exact i1 x hx
        · rcases i2 with ⟨e, rfl⟩ | ⟨r, rfl, e⟩
          · exact .inl ⟨e, rfl⟩
          · exact .inr ⟨r, rfl, e⟩
theorem spl_three_inv {core a b c : BL} (h : spl 46 core = [a, b, c]) : core = a ++ 46 :: (b ++ 46 :: c) := by
  obtain ⟨_, h1⟩ := spl_join 46 core a _ h
  rcases h1 with ⟨e, _⟩ | ⟨r, rfl, h1⟩
  · cases e
  obtain ⟨_, h2⟩ := spl_join 46 r b _ h1
  rcases h2 with ⟨e, _⟩ | ⟨r2, rfl, h2⟩
  · cases e
  obtain ⟨_, h3⟩ := spl_join 46 r2 c _ h2
  rcases h3 with ⟨_, rfl⟩ | ⟨r3, rfl, h3⟩
  · rfl
  · exact absurd h3 (spl_ne 46 r3)
end Go.Proofs.YtceeilojcifgeaaGreatDoor

namespace Go.Proofs.YtceeilojcifgeaaGreatDoor

theorem cutL_cases (c : UInt8) (l : BL) : (cutL c l = (l, [], false) ∧ ∀ x ∈ l, x ≠ c) ∨ ∃ a r, l = a ++ c :: r ∧ (∀ x ∈ a, x ≠ c) ∧ cutL c l = (a, r, true) := by
  rcases idx_cases c l with ⟨_, h⟩ | ⟨a, r, rfl, h, _⟩
  · exact .inl ⟨cutL_no h, h⟩
  · exact .inr ⟨a, r, rfl, h, cutL_app h r⟩
theorem isD_ne {c : UInt8} (h : isD c = true) : c ≠ 43 ∧ c ≠ 45 ∧ c ≠ 46 := by
  refine ⟨?_, ?_, ?_⟩ <;> (rintro rfl; exact absurd h (by decide))
/-- what may stand behind the numbers -/
def CoreT (t : BL) : Prop := t = [] ∨ ∃ c r, t = c :: r ∧ (c = 43 ∨ c = 45)
def inCore (c : UInt8) : Bool := !(c == 43) && !(c == 45)
theorem inCore_iff (c : UInt8) : inCore c = true ↔ c ≠ 43 ∧ c ≠ 45 := by unfold inCore; simp
theorem CoreT.not {t : BL} (h : CoreT t) : ∀ c r, t = c :: r → inCore c = false := by
  intro c r e
  rcases h with rfl | ⟨d, q, rfl, h⟩
  · cases e
  · injection e with e _; subst e; rcases h with rfl | rfl <;> rfl
theorem CoreT.nodig {t : BL} (h : CoreT t) : ∀ c r, t = c :: r → isD c = false := by
  intro c r e
  rcases h with rfl | ⟨d, q, rfl, h⟩
  · cases e
  · injection e with e _; subst e; rcases h with rfl | rfl <;> rfl
theorem abc_core {a b c : BL} (ha : numB a = true) (hb : numB b = true) (hc : numB c = true) : ∀ x ∈ a ++ 46 :: (b ++ 46 :: c), inCore x = true := by
  have dg : ∀ {d : BL}, numB d = true → ∀ x ∈ d, inCore x = true := fun h x hx => (inCore_iff x).2 ⟨(isD_ne (((numB_iff _).1 h).1 x hx)).1, (isD_ne (((numB_iff _).1 h).1 x hx)).2.1⟩
  intro x hx
  rcases List.mem_append.1 hx with hx | hx
  · exact dg ha x hx
  · rcases List.mem_cons.1 hx with rfl | hx
    · rfl
    · rcases List.mem_append.1 hx with hx | hx
      · exact dg hb x hx
      · rcases List.mem_cons.1 hx with rfl | hx
        · rfl
        · exact dg hc x hx
theorem nums_core (core t : BL) (hcore : ∀ x ∈ core, x ≠ 43 ∧ x ≠ 45) (ht : CoreT t) :
    (∃ a b c, spl 46 core = [a, b, c] ∧ numB a = true ∧ numB b = true ∧ numB c = true ∧ nums5 (core ++ t) = some (t, num a ++ (num b ++ num c))) ∨
    ((∀ ids, semT core ids = none) ∧ (nums5 (core ++ t) = none ∨ ∃ c r k, nums5 (core ++ t) = some (c :: r, k) ∧ c ≠ 43 ∧ c ≠ 45)) := by
  by_cases hg : ∃ a b c, spl 46 core = [a, b, c] ∧ numB a = true ∧ numB b = true ∧ numB c = true
  · obtain ⟨a, b, c, h, ha, hb, hc⟩ := hg
    refine .inl ⟨a, b, c, h, ha, hb, hc, ?_⟩
    rw [spl_three_inv h]
    exact nums5_of ha hb hc ht.nodig
  · refine .inr ⟨fun ids => ?_, ?_⟩
    · unfold semT
      rcases hs : spl 46 core with _ | ⟨a, _ | ⟨b, _ | ⟨c, _ | ⟨d, r⟩⟩⟩⟩ <;> try rfl
      simp only []
      rw [if_neg]
      intro h
      rw [Bool.and_eq_true, Bool.and_eq_true] at h
      exact hg ⟨a, b, c, hs, h.1, h.2.1, h.2.2⟩
    · cases hn : nums5 (core ++ t) with
      | none => exact .inl rfl
      | some p =>
        obtain ⟨r, k⟩ := p
        obtain ⟨a, b, c, he, ha, hb, hc, rfl⟩ := nums5_inv hn
        have e1 := tw_app inCore core t (fun x hx => (inCore_iff x).2 (hcore x hx)) ht.not
        have bad : CoreT r → False := by
          intro hr
          have e2 := tw_app inCore (a ++ 46 :: (b ++ 46 :: c)) r (abc_core ha hb hc) hr.not
          rw [← he] at e2
          have : core = a ++ 46 :: (b ++ 46 :: c) := e1.1.symm.trans e2.1
          exact hg ⟨a, b, c, by rw [this]; exact spl_three (digs_no46 ha) (digs_no46 hb) (digs_no46 hc), ha, hb, hc⟩
        cases r with
        | nil => exact absurd (.inl rfl) bad
        | cons x r =>
          refine .inr ⟨x, r, _, rfl, fun e => bad (.inr ⟨x, r, rfl, .inl e⟩), fun e => bad (.inr ⟨x, r, rfl, .inr e⟩)⟩
theorem skB_self (c : UInt8) (r : BL) : skB c (c :: r) = true := by unfold skB; simp
theorem skB_diff {c d : UInt8} (h : d ≠ c) (r : BL) : skB c (d :: r) = false := ne_int h
theorem bld_bad {c : UInt8} {r k : BL} (h : c ≠ 43) : bldS (c :: r) k = some (c :: r, k) := by unfold bldS; rw [skB_diff h]; rfl
theorem semTl_bad {c : UInt8} {r k : BL} (h1 : c ≠ 43) (h2 : c ≠ 45) : semTl (c :: r) k = none := by
  have hp : preS (c :: r) k = some (c :: r, k ++ [2]) := by unfold preS; rw [skB_diff h2]; rfl
  unfold semTl; rw [hp]; simp only []
  rw [bld_bad h1]; rfl
theorem made_good (p : BL) : madeB [45] p = true ↔ Good anyS p := by
  rw [made_dash]; exact ⟨fun h => ⟨h.1, h.2, [], rfl⟩, fun h => ⟨h.1, h.2.1⟩⟩
theorem all_digs {p : BL} (h : p ≠ []) : p.all isD = digs p := by
  unfold digs; cases p with
  | nil => exact absurd rfl h
  | cons c r => simp
theorem id_good (p : BL) : idOK p = true ↔ Good identS p := by
  unfold idOK
  rw [Bool.and_eq_true, made_dash]
  constructor
  · rintro ⟨⟨h1, h2⟩, h3⟩
    refine ⟨h1, h2, ?_⟩
    unfold identS
    rw [all_digs h1]
    cases hd : digs p
    · exact ⟨_, rfl⟩
    · rw [hd] at h3
      have : plainN p = true := by
        have : numB p = true := by simpa using h3
        exact ((numB_iff p).1 this).2
      rw [if_pos rfl, if_pos this]; exact ⟨_, rfl⟩
  · rintro ⟨h1, h2, e, he⟩
    refine ⟨⟨h1, h2⟩, ?_⟩
    unfold identS at he
    rw [all_digs h1] at he
    cases hd : digs p
    · rfl
    · rw [hd, if_pos rfl] at he
      split at he
      · rename_i hp; unfold numB; rw [hd, hp]; rfl
      · cases he
theorem id_enc {p : BL} (h : Good identS p) : (identS p).getD [] = enc6 p := by
  obtain ⟨h1, _, e, he⟩ := h
  rw [he]
  unfold identS at he
  rw [all_digs h1] at he
  unfold enc6
  split at he
  · rename_i hd
    split at he
    · injection he with he; rw [if_pos hd, ← he]; rfl
    · cases he
  · rename_i hd
    injection he with he; rw [if_neg hd, ← he]; rfl
theorem bld_yes {b k : BL} (h : ∀ x ∈ spl 46 b, madeB [45] x = true) (h43 : ∀ x ∈ b, x ≠ 43) : bldS (43 :: b) k = some ([], k) := by
  unfold bldS; rw [skB_self, if_pos rfl]
  rcases ids_spl anyS _ b [] k (Nat.le_refl _) (.inl rfl) h43 with ⟨h1, h2⟩ | ⟨h1, _⟩
  · rw [List.append_nil] at h2
    show idsS anyS b k = _
    rw [h2]
    have : (spl 46 b).flatMap (fun p => (anyS p).getD []) = [] := by
      rw [List.flatMap_eq_nil_iff]; intro p _; rfl
    rw [this, List.append_nil]
  · exact absurd (fun p hp => (made_good p).1 (h p hp)) h1
/-- build metadata that the reference refuses: nothing comes of it -/
theorem bld_no {b k : BL} (h : ¬ ∀ x ∈ spl 46 b, madeB [45] x = true) : bldS (43 :: b) k = none ∨ ∃ c r k', bldS (43 :: b) k = some (c :: r, k') := by
  unfold bldS; rw [skB_self, if_pos rfl]
  show idsS anyS b k = none ∨ ∃ c r k', idsS anyS b k = some (c :: r, k')
  rcases cutL_cases 43 b with ⟨_, h43⟩ | ⟨x, y, rfl, h43, _⟩
  · rcases ids_spl anyS _ b [] k (Nat.le_refl _) (.inl rfl) h43 with ⟨h1, _⟩ | ⟨_, h2⟩
    · exact absurd (fun p hp => (made_good p).2 (h1 p hp)) h
    · rw [List.append_nil] at h2
      rcases h2 with h2 | ⟨c, r, k', h2, _⟩
      · exact .inl h2
      · exact .inr ⟨c, r, k', h2⟩
  · rcases ids_spl anyS _ x (43 :: y) k (Nat.le_refl _) (.inr ⟨y, rfl⟩) h43 with ⟨_, h2⟩ | ⟨_, h2⟩
    · exact .inr ⟨_, _, _, h2⟩
    · rcases h2 with h2 | ⟨c, r, k', h2, _⟩
      · exact .inl h2
      · exact .inr ⟨c, r, k', h2⟩
theorem no43_build {b : BL} (h : ∀ x ∈ spl 46 b, madeB [45] x = true) : ∀ x ∈ b, x ≠ 43 := by
  rcases cutL_cases 43 b with ⟨_, h43⟩ | ⟨x, y, rfl, h43, _⟩
  · exact h43
  · exfalso
    rcases cutL_cases 46 x with ⟨_, h46⟩ | ⟨_, _, _, _, _⟩
    · obtain ⟨q, qs, e⟩ := spl_head (c := 46) (a := x) (d := 43) (r := y) h46 (by decide)
      have := ((made_dash _).1 (h (x ++ 43 :: q) (by rw [e]; exact List.mem_cons_self ..))).2 43 (by simp)
      exact absurd this (by decide)
    · have key : ∀ (n : Nat) (x : BL), x.length ≤ n → (∀ p ∈ spl 46 (x ++ 43 :: y), madeB [45] p = true) → False := by
        intro n
        induction n with
        | zero =>
          intro x hn h
          have e : x = [] := List.eq_nil_of_length_eq_zero (by omega)
          subst e
          obtain ⟨q, qs, e⟩ := spl_head (c := 46) (a := []) (d := 43) (r := y) (fun x hx => by cases hx) (by decide)
          have := ((made_dash _).1 (h ([] ++ 43 :: q) (by rw [e]; exact List.mem_cons_self ..))).2 43 (by simp)
          exact absurd this (by decide)
        | succ n ih =>
          intro x hn h
          rcases cutL_cases 46 x with ⟨_, h46⟩ | ⟨a, r, rfl, h46, _⟩
          · obtain ⟨q, qs, e⟩ := spl_head (c := 46) (a := x) (d := 43) (r := y) h46 (by decide)
            have := ((made_dash _).1 (h (x ++ 43 :: q) (by rw [e]; exact List.mem_cons_self ..))).2 43 (by simp)
            exact absurd this (by decide)
          · rw [List.append_assoc, List.cons_append, spl_app h46] at h
            exact ih r (by simp at hn; omega) (fun p hp => h p (List.mem_cons_of_mem _ hp))
      exact key _ x (Nat.le_refl _) h
/-- build metadata behind what is read: 'none', or all of it is -/
def BT (t : BL) (good : Bool) : Prop := (t = [] ∧ good = true) ∨ ∃ b, t = 43 :: b ∧ good = (spl 46 b).all (madeB [45])
theorem bt_yes {t k : BL} (h : BT t true) : bldS t k = some ([], k) := by
  rcases h with ⟨rfl, _⟩ | ⟨b, rfl, hg⟩
  · rfl
  · have hg := List.all_eq_true.1 hg.symm
    exact bld_yes hg (no43_build hg)
theorem bt_no {t k : BL} (h : BT t false) : bldS t k = none ∨ ∃ c r k', bldS t k = some (c :: r, k') := by
  rcases h with ⟨_, h⟩ | ⟨b, rfl, hg⟩
  · cases h
  · refine bld_no (fun h => ?_)
    rw [List.all_eq_true.2 h] at hg; cases hg
theorem BT.plus {t : BL} {g : Bool} (h : BT t g) : PlusT t := by
  rcases h with ⟨rfl, _⟩ | ⟨b, rfl, _⟩
  · exact .inl rfl
  · exact .inr ⟨b, rfl⟩
def fin7 (o : Option (BL × BL)) : Option BL := match o with
  | none => none
  | some p7 => if p7.1 = [] then some p7.2 else none
theorem semTl_eq (r k : BL) : semTl r k = match preS r k with
  | none => none
  | some p6 => fin7 (bldS p6.1 p6.2) := by
  unfold semTl fin7
  cases preS r k with
  | none => rfl
  | some p6 => rfl
theorem fin_bad {o : Option (BL × BL)} (h : o = none ∨ ∃ c r k', o = some (c :: r, k')) : fin7 o = none := by
  rcases h with rfl | ⟨c, r, k', rfl⟩
  · rfl
  · rfl
/-- the tail without a prerelease -/
theorem tl_plain {t k : BL} {g : Bool} (h : BT t g) : semTl t k = if g = true then some (k ++ [2]) else none := by
  have hp : preS t k = some (t, k ++ [2]) := by
    unfold preS
    rcases h with ⟨rfl, _⟩ | ⟨b, rfl, _⟩
    · rfl
    · rw [skB_diff (by decide)]; rfl
  rw [semTl_eq, hp]
  cases g
  · exact fin_bad (bt_no h)
  · show fin7 (bldS t (k ++ [2])) = _
    rw [bt_yes h]; rfl
/-- the tail with one -/
theorem tl_pre {pre t k : BL} {g : Bool} (h : BT t g) (h43 : ∀ x ∈ pre, x ≠ 43) : semTl (45 :: (pre ++ t)) k = if (g && (spl 46 pre).all idOK) = true then some (k ++ (spl 46 pre).flatMap enc6) else none := by
  have hp : preS (45 :: (pre ++ t)) k = idsS identS (pre ++ t) k := by unfold preS; rw [skB_self]; rfl
  rw [semTl_eq, hp]
  rcases ids_spl identS _ pre t k (Nat.le_refl _) h.plus h43 with ⟨h1, h2⟩ | ⟨h1, h2⟩
  · have ha : (spl 46 pre).all idOK = true := List.all_eq_true.2 (fun p hp => (id_good p).2 (h1 p hp))
    have he : (spl 46 pre).flatMap (fun p => (identS p).getD []) = (spl 46 pre).flatMap enc6 := by
      have : ∀ L : List BL, (∀ p ∈ L, Good identS p) → L.flatMap (fun p => (identS p).getD []) = L.flatMap enc6 := by
        intro L
        induction L with
        | nil => intro _; rfl
        | cons p L ih => intro hL; rw [List.flatMap_cons, List.flatMap_cons, id_enc (hL p (by simp)), ih (fun q hq => hL q (by simp [hq]))]
      exact this _ h1
    rw [h2, ha, he, Bool.and_true]
    cases g
    · exact fin_bad (bt_no h)
    · show fin7 (bldS t _) = _
      rw [bt_yes h]; rfl
  · have ha : (spl 46 pre).all idOK = false := by
      cases ha : (spl 46 pre).all idOK
      · rfl
      · exact absurd (fun p hp => (id_good p).1 (List.all_eq_true.1 ha p hp)) h1
    rw [ha, Bool.and_false, if_neg (by simp)]
    rcases h2 with h2 | ⟨c, r, k', h2, hc⟩
    · rw [h2]
    · rw [h2]; show fin7 (bldS (c :: r) k') = none
      rw [bld_bad hc]; rfl
/-- what semS makes of what the reference reads -/
def SemRel (o : Option (List BL × List BL)) (k : Option BL) : Prop := match o with
  | none => k = none
  | some p => ∃ a b c, p.1 = [a, b, c] ∧ k = some (semk a b c p.2) ∧ numB a = true ∧ numB b = true ∧ numB c = true ∧ ∀ x ∈ p.2, idOK x = true
theorem sem_tail {core t : BL} (hcore : ∀ x ∈ core, x ≠ 43 ∧ x ≠ 45) (ht : CoreT t) (o : Bool) (ids : List BL) (hids : o = true → ∀ x ∈ ids, idOK x = true) (h : ∀ k, semTl t k = if o = true then some (k ++ prek ids) else none) :
    SemRel (if o = true then semT core ids else none) (semS (core ++ t)) := by
  rw [semS_eq]
  rcases nums_core core t hcore ht with ⟨a, b, c, hs, ha, hb, hc, hn⟩ | ⟨hT, hn⟩
  · rw [hn]; simp only []
    rw [h]
    cases o
    · exact rfl
    · rw [if_pos rfl, if_pos rfl]
      have : semT core ids = some ([a, b, c], ids) := by unfold semT; rw [hs]; simp [ha, hb, hc]
      rw [this]
      exact ⟨a, b, c, rfl, by unfold semk; simp, ha, hb, hc, hids rfl⟩
  · have : (if o = true then semT core ids else none) = none := by split; exact hT ids; rfl
    rw [this]
    rcases hn with hn | ⟨c, r, k, hn, h1, h2⟩
    · rw [hn]; rfl
    · rw [hn]; exact semTl_bad h1 h2
theorem prek_nil : prek [] = [2] := rfl
theorem prek_ids {ids : List BL} (h : ids ≠ []) : prek ids = ids.flatMap enc6 := by unfold prek; rw [if_neg h]
theorem sem_rel (l : BL) : SemRel (semR l) (semS l) := by
  have body : ∀ (bd t : BL) (g : Bool), (∀ x ∈ bd, x ≠ 43) → BT t g → SemRel (if g = true then semP bd else none) (semS (bd ++ t)) := by
    intro bd t g h43 hbt
    have hct : CoreT t := by
      rcases hbt.plus with h | ⟨b, h⟩
      · exact .inl h
      · exact .inr ⟨43, b, h, .inl rfl⟩
    rcases cutL_cases 45 bd with ⟨hc, h45⟩ | ⟨core, pre, rfl, h45, hc⟩
    · have e : semP bd = semT bd [] := by unfold semP; rw [hc]; rfl
      rw [e]
      exact sem_tail (fun x hx => ⟨h43 x hx, h45 x hx⟩) hct g [] (fun _ x hx => by cases hx) (fun k => by rw [tl_plain hbt, prek_nil])
    · have e : semP (core ++ 45 :: pre) = if (spl 46 pre).all idOK = true then semT core (spl 46 pre) else none := by unfold semP; rw [hc]; rfl
      rw [e]
      have := sem_tail (core := core) (t := 45 :: (pre ++ t)) (fun x hx => ⟨h43 x (by simp [hx]), h45 x hx⟩) (.inr ⟨45, _, rfl, .inr rfl⟩) (g && (spl 46 pre).all idOK) (spl 46 pre)
        (fun h x hx => by rw [Bool.and_eq_true] at h; exact List.all_eq_true.1 h.2 x hx) (fun k => by rw [tl_pre hbt (fun x hx => h43 x (by simp [hx])), prek_ids (spl_ne 46 pre)])
      rw [List.append_assoc, List.cons_append]
      cases g
      · simpa using this
      · cases ha : (spl 46 pre).all idOK
        · rw [ha] at this; simpa using this
        · rw [ha] at this; simpa using this
  rcases cutL_cases 43 l with ⟨hc, h43⟩ | ⟨bd, b, rfl, h43, hc⟩
  · have e : semR l = semP l := by unfold semR; rw [hc]; rfl
    have := body l [] true h43 (.inl ⟨rfl, rfl⟩)
    rw [List.append_nil] at this
    rw [e]; exact this
  · have e : semR (bd ++ 43 :: b) = if (spl 46 b).all (madeB [45]) = true then semP bd else none := by unfold semR; rw [hc]; rfl
    rw [e]
    exact body bd (43 :: b) _ h43 (.inr ⟨b, rfl, rfl⟩)
end Go.Proofs.YtceeilojcifgeaaGreatDoor

namespace Go.Proofs.YtceeilojcifgeaaGreatDoor

/-- the bytes of upstream versions -/
def okD (c : UInt8) : Bool := okB [46, 43, 126, 45] c
theorem contains4 (c : UInt8) : ([46, 43, 126, 45] : BL).contains c = true ↔ c = 46 ∨ c = 43 ∨ c = 126 ∨ c = 45 := by simp
theorem contains3 (c : UInt8) : ([46, 43, 126] : BL).contains c = true ↔ c = 46 ∨ c = 43 ∨ c = 126 := by simp
theorem mark_ok {c : UInt8} (h : isD c = false) : (∃ m, mark6 c = some m) ↔ okD c = true := by
  unfold okD okB
  rw [h, Bool.false_or, Bool.or_eq_true, contains4]
  by_cases h1 : c = 126
  · subst h1; exact ⟨fun _ => .inr (by simp), fun _ => ⟨_, mark_tilde⟩⟩
  · cases h2 : isL c
    · by_cases h3 : c = 46 ∨ c = 43 ∨ c = 45
      · refine ⟨fun _ => .inr ?_, fun _ => ⟨_, mark_other h1 h2 h3⟩⟩
        rcases h3 with h | h | h
        · exact .inl h
        · exact .inr (.inl h)
        · exact .inr (.inr (.inr h))
      · rw [mark_none h1 h2 h3]
        refine ⟨(fun ⟨m, e⟩ => by cases e), fun h => ?_⟩
        rcases h with h | h | h | h | h
        · cases h
        · exact absurd (.inl h) h3
        · exact absurd (.inr (.inl h)) h3
        · exact absurd h h1
        · exact absurd (.inr (.inr h)) h3
    · exact ⟨fun _ => .inl rfl, fun _ => ⟨_, mark_letter h1 h2⟩⟩
theorem marks_ok : ∀ (l : BL), (∀ c ∈ l, isD c = false) → ((∃ p, marks6 l = some p) ↔ ∀ c ∈ l, okD c = true)
  | [], _ => ⟨(fun _ c hc => by cases hc), fun _ => ⟨[], rfl⟩⟩
  | c :: l, h => by
    have ih := marks_ok l (fun x hx => h x (by simp [hx]))
    have hc := mark_ok (h c (by simp))
    unfold marks6
    cases hm : mark6 c with
    | none =>
      refine ⟨(fun ⟨p, e⟩ => by cases e), fun hall => ?_⟩
      obtain ⟨m, e⟩ := hc.2 (hall c (by simp)); rw [hm] at e; cases e
    | some m =>
      simp only []
      constructor
      · rintro ⟨p, e⟩
        obtain ⟨q, hq, _⟩ := Option.map_eq_some_iff.1 e
        intro x hx
        rcases List.mem_cons.1 hx with rfl | hx
        · exact hc.1 ⟨m, hm⟩
        · exact ih.1 ⟨q, hq⟩ x hx
      · intro hall
        obtain ⟨q, hq⟩ := ih.2 (fun x hx => hall x (by simp [hx]))
        exact ⟨m :: q, by rw [hq]; rfl⟩
theorem digit_ok {c : UInt8} (h : isD c = true) : okD c = true := by unfold okD okB; rw [h]; simp
theorem part_ok : ∀ (n : Nat) (s : BL), s.length ≤ n → ((∃ k, part6 s = some k) ↔ ∀ c ∈ s, okD c = true) := by
  intro n
  induction n with
  | zero =>
    intro s hn
    have e : s = [] := List.eq_nil_of_length_eq_zero (by omega)
    subst e
    exact ⟨(fun _ c hc => by cases hc), fun _ => ⟨_, part_nil⟩⟩
  | succ n ih =>
    intro s hn
    have j1 := tw_join notD s
    have j2 : s.dropWhile notD = dig6 s ++ rest6 s := tw_join isD (s.dropWhile notD)
    have hpre : ∀ c ∈ s.takeWhile notD, isD c = false := fun c hc => by
      have := tw_all notD s c hc; unfold notD at this; simpa using this
    have hdig : ∀ c ∈ dig6 s, isD c = true := tw_all isD _
    have hm := marks_ok _ hpre
    have memall : (∀ c ∈ s, okD c = true) ↔ (∀ c ∈ s.takeWhile notD, okD c = true) ∧ (∀ c ∈ rest6 s, okD c = true) := by
      constructor
      · intro h
        exact ⟨fun c hc => h c (by rw [j1]; exact List.mem_append_left _ hc), fun c hc => h c (by rw [j1, j2]; exact List.mem_append_right _ (List.mem_append_right _ hc))⟩
      · rintro ⟨h1, h2⟩ c hc
        rw [j1] at hc
        rcases List.mem_append.1 hc with hc | hc
        · exact h1 c hc
        · rw [j2] at hc
          rcases List.mem_append.1 hc with hc | hc
          · exact digit_ok (hdig c hc)
          · exact h2 c hc
    rw [memall]
    by_cases hr : rest6 s = []
    · rw [hr]
      constructor
      · rintro ⟨k, hk⟩
        obtain ⟨p, t, hp, _, _⟩ := part6_step s k hk
        exact ⟨hm.1 ⟨p, hp⟩, fun c hc => by cases hc⟩
      · rintro ⟨h1, _⟩
        obtain ⟨p, hp⟩ := hm.2 h1
        exact ⟨_, part6_end hp hr⟩
    · have hs : s ≠ [] := fun e => hr (by rw [e]; rfl)
      have hlt := rest6_len s hs
      have ih' := ih (rest6 s) (by omega)
      constructor
      · rintro ⟨k, hk⟩
        obtain ⟨p, t, hp, ht, _⟩ := part6_step s k hk
        unfold tail6 at ht; rw [if_neg hr] at ht
        exact ⟨hm.1 ⟨p, hp⟩, ih'.1 ⟨t, ht⟩⟩
      · rintro ⟨h1, h2⟩
        obtain ⟨p, hp⟩ := hm.2 h1
        obtain ⟨t, ht⟩ := ih'.2 h2
        exact ⟨_, by rw [part6_on hp hr, ht]; rfl⟩
theorem part_some (s : BL) : (∃ k, part6 s = some k) ↔ ∀ c ∈ s, okD c = true := part_ok _ s (Nat.le_refl _)
theorem lastK_last (c : UInt8) (l : BL) : ∀ (k : Nat), k ≤ l.length → ∀ i : Nat, lastK c l k = (i : Int) → i < k ∧ l.getD i 0 = c ∧ ∀ j, i < j → j < k → l.getD j 0 ≠ c
  | 0, _, i, h => by unfold lastK at h; omega
  | k + 1, hk, i, h => by
    by_cases hc : l.getD k 0 = c
    · rw [lastK_hit hc] at h
      obtain rfl : k = i := by omega
      exact ⟨by omega, hc, fun j h1 h2 => by omega⟩
    · rw [lastK_miss hc] at h
      obtain ⟨h1, h2, h3⟩ := lastK_last c l k (by omega) i h
      refine ⟨by omega, h2, fun j h4 h5 => ?_⟩
      rcases Nat.lt_succ_iff_lt_or_eq.1 h5 with h6 | rfl
      · exact h3 j h4 h6
      · exact hc
theorem rev_no45 (l : BL) : ∀ x ∈ revD l, x ≠ 45 := by
  intro x hx
  unfold revD at hx
  split at hx
  · cases hx
  · rename_i h
    obtain ⟨i, hi⟩ : ∃ i : Nat, lastI 45 l = (i : Int) := ⟨(lastI 45 l).toNat, by omega⟩
    have h1 := lastK_last 45 l l.length (Nat.le_refl _) i hi
    rw [hi] at hx
    obtain ⟨j, hj, rfl⟩ := List.getElem_of_mem hx
    rw [List.getElem_drop]
    have hj2 : i + 1 + j < l.length := by rw [List.length_drop] at hj; simp at hj; omega
    have := h1.2.2 (i + 1 + j) (by omega) hj2
    rw [List.getD_eq_getElem?_getD, List.getElem?_eq_getElem hj2] at this
    simpa using this
theorem mem_parts (l : BL) (x : UInt8) (hx : x ∈ l) (h : x ≠ 45) : x ∈ upsD l ∨ x ∈ revD l := by
  unfold upsD revD
  by_cases hn : lastI 45 l < 0
  · rw [if_pos hn, if_pos hn]; exact .inl hx
  · rw [if_neg hn, if_neg hn]
    obtain ⟨i, hi⟩ : ∃ i : Nat, lastI 45 l = (i : Int) := ⟨(lastI 45 l).toNat, by omega⟩
    obtain ⟨h1, h2, _⟩ := lastK_last 45 l l.length (Nat.le_refl _) i hi
    rw [hi]
    show x ∈ l.take i ∨ x ∈ l.drop (i + 1)
    have e : l = l.take i ++ l[i] :: l.drop (i + 1) := by rw [← List.drop_eq_getElem_cons h1, List.take_append_drop]
    rw [e] at hx
    rcases List.mem_append.1 hx with hx | hx
    · exact .inl hx
    · rcases List.mem_cons.1 hx with hx | hx
      · exfalso; rw [List.getD_eq_getElem?_getD, List.getElem?_eq_getElem h1] at h2; exact h (hx.trans h2)
      · exact .inr hx
theorem ok3 {c : UInt8} (h : c ≠ 45) : okB [46, 43, 126] c = okD c := by
  unfold okD okB
  have : ([46, 43, 126] : BL).contains c = ([46, 43, 126, 45] : BL).contains c := by
    rw [Bool.eq_iff_iff, contains3, contains4]
    constructor
    · rintro (h | h | h)
      · exact .inl h
      · exact .inr (.inl h)
      · exact .inr (.inr (.inl h))
    · rintro (h1 | h1 | h1 | h1)
      · exact .inl h1
      · exact .inr (.inl h1)
      · exact .inr (.inr h1)
      · exact absurd h1 h
  rw [this]
def DebRel (o : Option (List BL)) (k : Option BL) : Prop := match o with
  | none => k = none
  | some p => ∃ e u r k1 k2, p = [e, u, r] ∧ k = some (num e ++ (k1 ++ k2)) ∧ part6 u = some k1 ∧ part6 r = some k2
theorem debP_none {u r k : BL} (h : hdD u = false ∨ (∀ k, part6 u ≠ some k) ∨ (∀ k, part6 r ≠ some k)) : debP u r k = none := by
  unfold debP
  cases u with
  | nil => rfl
  | cons c u =>
    simp only []
    split
    · rename_i hc
      rcases h with h | h | h
      · exact absurd hc (by show ¬ _; rw [show hdD (c :: u) = isD c from rfl] at h; rw [h]; simp)
      · have : prtS (c :: u) k = none := by unfold prtS; cases hp : part6 (c :: u) with | none => rfl | some q => exact absurd hp (h q)
        rw [this]
      · cases hp : prtS (c :: u) k with
        | none => rfl
        | some k1 =>
          show prtS r k1 = none
          unfold prtS; cases hp : part6 r with | none => rfl | some q => exact absurd hp (h q)
    · rfl
theorem debP_some {u r k k1 k2 : BL} (h : hdD u = true) (h1 : part6 u = some k1) (h2 : part6 r = some k2) : debP u r k = some ((k ++ k1) ++ k2) := by
  unfold debP
  cases u with
  | nil => cases h
  | cons c u =>
    simp only []
    rw [if_pos (show isD c = true from h)]
    have e1 : prtS (c :: u) k = some (k ++ k1) := by unfold prtS; rw [h1]; rfl
    rw [e1]
    show prtS r (k ++ k1) = _
    unfold prtS; rw [h2]; rfl
/-- behind the epoch -/
theorem deb_rel2 (ep rest : BL) (hd : digs ep = true) : DebRel (debR2 ep rest) (if 0 ≤ lastI 45 rest ∧ revD rest = [] then none else debP (upsD rest) (revD rest) (num ep)) := by
  unfold debR2
  by_cases hm : 0 ≤ lastI 45 rest ∧ madeB [46, 43, 126] (revD rest) = false
  · rw [if_pos hm]
    show _ = none
    by_cases he : revD rest = []
    · rw [if_pos ⟨hm.1, he⟩]
    · rw [if_neg (fun h => he h.2)]
      refine debP_none (.inr (.inr (fun k hk => ?_)))
      have hall := (part_some _).1 ⟨k, hk⟩
      have : madeB [46, 43, 126] (revD rest) = true := (madeB_iff _ _).2 ⟨fun c hc => by rw [ok3 (rev_no45 rest c hc)]; exact hall c hc, he⟩
      rw [hm.2] at this; cases this
  · rw [if_neg hm]
    have hno : ¬ (0 ≤ lastI 45 rest ∧ revD rest = []) := fun h => hm ⟨h.1, by rw [h.2]; rfl⟩
    rw [if_neg hno, hd, Bool.true_and]
    have hrev : ∃ k2, part6 (revD rest) = some k2 := by
      by_cases h0 : 0 ≤ lastI 45 rest
      · have : madeB [46, 43, 126] (revD rest) = true := by
          cases h : madeB [46, 43, 126] (revD rest)
          · exact absurd ⟨h0, h⟩ hm
          · rfl
        exact (part_some _).2 (fun c hc => by rw [← ok3 (rev_no45 rest c hc)]; exact ((madeB_iff _ _).1 this).1 c hc)
      · have : revD rest = [] := by unfold revD; rw [if_pos (by omega)]
        rw [this]; exact ⟨_, part_nil⟩
    obtain ⟨k2, hk2⟩ := hrev
    cases hh : hdD (upsD rest)
    · rw [Bool.and_false, if_neg (by simp)]; exact debP_none (.inl hh)
    · cases hu : madeB [46, 43, 126, 45] (upsD rest)
      · rw [if_neg (by simp)]
        refine debP_none (.inr (.inl (fun k hk => ?_)))
        have hall := (part_some _).1 ⟨k, hk⟩
        have : madeB [46, 43, 126, 45] (upsD rest) = true := (madeB_iff _ _).2 ⟨hall, by intro e; rw [e] at hh; cases hh⟩
        rw [hu] at this; cases this
      · rw [if_pos (by simp)]
        obtain ⟨k1, hk1⟩ := (part_some _).2 ((madeB_iff _ _).1 hu).1
        exact ⟨ep, upsD rest, revD rest, k1, k2, rfl, by rw [debP_some hh hk1 hk2]; simp, hk1, hk2⟩
theorem debP_colon {l : BL} (h : (58 : UInt8) ∈ l) (k : BL) : debP (upsD l) (revD l) k = none := by
  rcases mem_parts l 58 h (by decide) with h | h
  · refine debP_none (.inr (.inl (fun k hk => ?_)))
    exact absurd ((part_some _).1 ⟨k, hk⟩ 58 h) (by decide)
  · refine debP_none (.inr (.inr (fun k hk => ?_)))
    exact absurd ((part_some _).1 ⟨k, hk⟩ 58 h) (by decide)
theorem num_zero : num [48] = num [] := rfl
theorem no_epoch {l : BL} (h : hasE l = false) : epL l = l ∧ epD l = [] := by unfold epL epD; rw [h]; exact ⟨rfl, rfl⟩
theorem deb_rel (l : BL) : DebRel (debR l) (debS l) := by
  unfold debR debS
  rcases cutL_cases 58 l with ⟨hc, h58⟩ | ⟨a, r, rfl, h58, hc⟩
  · rw [hc]
    have hE : hasE l = false := by
      unfold hasE
      have : skB 58 (l.dropWhile isD) = false := by
        cases hd : l.dropWhile isD with
        | nil => rfl
        | cons c q => exact skB_diff (h58 c (by have := tw_join isD l; rw [hd] at this; rw [this]; simp)) q
      rw [this, Bool.and_false]
    obtain ⟨e1, e2⟩ := no_epoch hE
    rw [e1, e2, ← num_zero]
    exact deb_rel2 [48] l rfl
  · rw [hc]
    show DebRel (debR2 a r) _
    have hja := tw_split isD a (58 :: r) (by intro c q e; injection e with e _; subst e; decide)
    cases hd : digs a
    · have hE : hasE (a ++ 58 :: r) = false := by
        unfold hasE
        rw [hja.1, hja.2]
        cases hdw : a.dropWhile isD with
        | nil =>
          have : a = a.takeWhile isD := by have := tw_join isD a; rw [hdw, List.append_nil] at this; exact this
          have ha : a = [] := by
            cases a with
            | nil => rfl
            | cons c q =>
              exfalso
              have : digs (c :: q) = true := (digs_iff _).2 ⟨fun x hx => tw_all isD (c :: q) x (by rw [← this]; exact hx), by simp⟩
              rw [hd] at this; cases this
          subst ha; rfl
        | cons c q =>
          rw [List.cons_append, skB_diff (h58 c (by have := tw_join isD a; rw [hdw] at this; rw [this]; simp)), Bool.and_false]
      obtain ⟨e1, e2⟩ := no_epoch hE
      rw [e1, e2]
      have hn : debR2 a r = none := by unfold debR2; split; rfl; rw [hd, Bool.false_and, if_neg (by simp)]
      rw [hn]
      show _ = none
      split
      · rfl
      · exact debP_colon (by simp) _
    · obtain ⟨hda, hne⟩ := (digs_iff a).1 hd
      have e1 := tw_app isD a (58 :: r) hda (by intro c q e; injection e with e _; subst e; decide)
      have hE : hasE (a ++ 58 :: r) = true := by
        unfold hasE; rw [e1.1, e1.2, skB_self]
        have : (a == []) = false := beq_eq_false_iff_ne.2 hne
        rw [this]; rfl
      have e2 : epL (a ++ 58 :: r) = r := by unfold epL; rw [hE, e1.2]; rfl
      have e3 : epD (a ++ 58 :: r) = a := by unfold epD; rw [hE, e1.1]; rfl
      rw [e2, e3]
      exact deb_rel2 a r hd
/-- what dotS makes of the pieces -/
theorem dot_rel : ∀ (n : Nat) (l k : BL), l.length ≤ n → dotS l k = if (spl 46 l).all digs = true then some (dz (k ++ (spl 46 l).flatMap num)) else none := by
  intro n
  induction n with
  | zero =>
    intro l k hn
    have e : l = [] := List.eq_nil_of_length_eq_zero (by omega)
    subst e; rw [dotS_1 rfl]; rfl
  | succ n ih =>
    intro l k hn
    have hj := tw_join isD l
    have hall := tw_all isD l
    by_cases h0 : l.takeWhile isD = []
    · rw [dotS_1 h0, if_neg]
      intro h
      cases l with
      | nil => rw [show spl 46 [] = [[]] from rfl] at h; cases h
      | cons c q =>
        have hc : isD c = false := by
          rw [List.takeWhile_cons] at h0
          cases hc : isD c
          · rfl
          · rw [hc] at h0; simp at h0
        by_cases h46 : c = 46
        · subst h46; unfold spl at h; rw [if_pos rfl] at h; cases h
        · obtain ⟨x, xs, e⟩ := spl_head (c := 46) (a := []) (d := c) (r := q) (fun x hx => by cases hx) h46
          rw [List.nil_append] at e
          rw [e] at h
          have := ((digs_iff _).1 (List.all_eq_true.1 h ([] ++ c :: x) (by simp))).1 c (by simp)
          rw [hc] at this; cases this
    · have hdg : digs (l.takeWhile isD) = true := (digs_iff _).2 ⟨hall, h0⟩
      cases hr : l.dropWhile isD with
      | nil =>
        have hl : l = l.takeWhile isD := by rw [hr, List.append_nil] at hj; exact hj
        rw [dotS_2 h0 hr]
        have : spl 46 l = [l.takeWhile isD] := by
          conv => lhs; rw [hl]
          exact spl_one (fun x hx => (isD_ne (hall x hx)).2.2)
        rw [this]; simp [hdg]
      | cons c q =>
        rw [hr] at hj
        have hcD := dw_head isD l c q hr
        by_cases h46 : c = 46
        · subst h46
          have hs : spl 46 l = l.takeWhile isD :: spl 46 q := by
            conv => lhs; rw [hj]
            exact spl_app (fun x hx => (isD_ne (hall x hx)).2.2) q
          have hlen := congrArg List.length hj
          rw [List.length_append, List.length_cons] at hlen
          rw [dotS_4 h0 (by rw [hr]; simp) (by rw [hr]; exact skB_self 46 q), hr]
          show dotS q _ = _
          rw [ih q _ (by omega), hs, List.all_cons, hdg, Bool.true_and, List.flatMap_cons, List.append_assoc]
        · rw [dotS_3 h0 (by rw [hr]; simp) (by rw [hr]; exact skB_diff h46 q), if_neg]
          intro h
          obtain ⟨x, xs, e⟩ := spl_head (c := 46) (a := l.takeWhile isD) (d := c) (r := q) (fun x hx => (isD_ne (hall x hx)).2.2) h46
          rw [← hj] at e
          rw [e] at h
          have := ((digs_iff _).1 (List.all_eq_true.1 h (l.takeWhile isD ++ c :: x) (by simp))).1 c (by simp)
          rw [hcD] at this; cases this
theorem valB_some {s : Int} {l : BL} (hs : schB s = true) : valB s l = (keyO s l).isSome := by
  unfold valB keyR; rw [if_pos hs]; cases keyO s l <;> rfl
theorem valB_eq (s : Int) (l : BL) : valB s l = rValB s l := by
  cases hs : schB s
  · have e : keyR s l = ([], 14) := by unfold keyR; rw [hs]; rfl
    have h1 : s ≠ 1 := by rintro rfl; cases hs
    have h2 : s ≠ 2 := by rintro rfl; cases hs
    have h3 : s ≠ 3 := by rintro rfl; cases hs
    unfold valB rValB
    rw [e, if_neg h1, if_neg h2, if_neg h3]
    split <;> rfl
  · rw [valB_some hs]
    unfold rValB
    by_cases h0 : l = []
    · subst h0
      rw [if_pos (.inl rfl)]
      rcases sch_cases hs with rfl | rfl | rfl
      · have : keyO 1 [] = none := by decide +kernel
        rw [this]; rfl
      · have : keyO 2 [] = none := by decide +kernel
        rw [this]; rfl
      · have : keyO 3 [] = none := by decide +kernel
        rw [this]; rfl
    · by_cases h64 : 64 < l.length
      · rw [if_pos (.inr h64)]
        have : keyO s l = none := by unfold keyO; rw [if_pos h64]
        rw [this]; rfl
      · rw [if_neg (fun h => h.elim h0 h64)]
        rcases sch_cases hs with rfl | rfl | rfl
        · rw [keyO1 (by omega), if_pos rfl]
          have := sem_rel l
          cases hr : semR l with
          | none => rw [hr] at this; rw [show semS l = none from this]; rfl
          | some p => rw [hr] at this; obtain ⟨a, b, c, _, h, _⟩ := this; rw [h]; rfl
        · rw [keyO2 (by omega), if_neg (by decide), if_pos rfl]
          have := deb_rel l
          cases hr : debR l with
          | none => rw [hr] at this; rw [show debS l = none from this]; rfl
          | some p => rw [hr] at this; obtain ⟨_, _, _, _, _, _, h, _⟩ := this; rw [h]; rfl
        · rw [keyO3 (by omega), if_neg (by decide), if_neg (by decide), if_pos rfl, dot_rel _ l [] (Nat.le_refl _)]
          cases (spl 46 l).all digs <;> rfl
end Go.Proofs.YtceeilojcifgeaaGreatDoor
