/-
  Versions: a semantic version is read as the reference reads it. Plain mathematics.
-/
import Derived.Test.YtceeilojcifgeaaDoorVrfE
import Derived.Test.YtceeilojcifgeaaDoorVerU
namespace Go.Proofs.YtceeilojcifgeaaDoor

theorem isI_not {c : UInt8} (h : isI c = true) : c ≠ 46 ∧ c ≠ 43 := by
  constructor <;> (rintro rfl; exact absurd h (by decide))
theorem okB_dash (c : UInt8) : okB [45] c = isI c := by
  unfold okB isI
  have : ([45] : BL).contains c = (c == 45) := by rw [Bool.eq_iff_iff]; simp
  rw [this, Bool.or_assoc]
theorem made_dash (p : BL) : madeB [45] p = true ↔ p ≠ [] ∧ ∀ c ∈ p, isI c = true := by
  rw [madeB_iff]; constructor
  · rintro ⟨h1, h2⟩; exact ⟨h2, fun c hc => by rw [← okB_dash]; exact h1 c hc⟩
  · rintro ⟨h1, h2⟩; exact ⟨fun c hc => by rw [okB_dash]; exact h2 c hc, h1⟩
def Good (f : BL → Option BL) (p : BL) : Prop := p ≠ [] ∧ (∀ c ∈ p, isI c = true) ∧ ∃ e, f p = some e
/-- what may follow -/
def PlusT (t : BL) : Prop := t = [] ∨ ∃ b, t = 43 :: b
theorem PlusT.head {t : BL} (h : PlusT t) : ∀ c r, t = c :: r → isI c = false := by
  intro c r e
  rcases h with rfl | ⟨b, rfl⟩
  · cases e
  · injection e with e _; subst e; decide
theorem PlusT.dot {t : BL} (h : PlusT t) : skB 46 t = false := by
  rcases h with rfl | ⟨b, rfl⟩
  · rfl
  · rfl
theorem tw_split (p : UInt8 → Bool) : ∀ (x t : BL), (∀ c r, t = c :: r → p c = false) → (x ++ t).takeWhile p = x.takeWhile p ∧ (x ++ t).dropWhile p = x.dropWhile p ++ t
  | [], t, h => by
    have := tw_app p [] t (fun c hc => by cases hc) h
    rw [List.nil_append] at this ⊢; rw [this.1, this.2]; exact ⟨rfl, rfl⟩
  | c :: x, t, h => by
    rw [List.cons_append, List.takeWhile_cons, List.dropWhile_cons, List.takeWhile_cons, List.dropWhile_cons]
    obtain ⟨e1, e2⟩ := tw_split p x t h
    cases hc : p c
    · exact ⟨rfl, rfl⟩
    · simp [e1, e2]
theorem tw_join (p : UInt8 → Bool) (x : BL) : x = x.takeWhile p ++ x.dropWhile p := (List.takeWhile_append_dropWhile).symm
theorem spl_head {c : UInt8} : ∀ {a : BL} {d : UInt8} {r : BL}, (∀ x ∈ a, x ≠ c) → d ≠ c → ∃ q qs, spl c (a ++ d :: r) = (a ++ d :: q) :: qs
  | [], d, r, _, hd => by
    rw [List.nil_append]; unfold spl; rw [if_neg hd]
    cases h : spl c r with
    | nil => exact absurd h (spl_ne c r)
    | cons p ps => exact ⟨p, ps, rfl⟩
  | b :: a, d, r, h, hd => by
    obtain ⟨q, qs, e⟩ := spl_head (fun x hx => h x (by simp [hx])) hd (a := a) (r := r)
    rw [List.cons_append]; unfold spl; rw [if_neg (h b (by simp)), e]
    exact ⟨q, qs, rfl⟩
theorem ids_spl (f : BL → Option BL) : ∀ (n : Nat) (x t k : BL), x.length ≤ n → PlusT t → (∀ c ∈ x, c ≠ 43) →
    ((∀ p ∈ spl 46 x, Good f p) ∧ idsS f (x ++ t) k = some (t, k ++ (spl 46 x).flatMap (fun p => (f p).getD []))) ∨
    ((¬ ∀ p ∈ spl 46 x, Good f p) ∧ (idsS f (x ++ t) k = none ∨ ∃ c r k', idsS f (x ++ t) k = some (c :: r, k') ∧ c ≠ 43)) := by
  intro n
  induction n with
  | zero =>
    intro x t k hn ht hx
    have e : x = [] := List.eq_nil_of_length_eq_zero (by omega)
    subst e
    refine .inr ⟨fun h => (h [] (by simp [spl])).1 rfl, .inl (idsS_none ?_)⟩
    rw [(tw_split isI [] t ht.head).1]; rfl
  | succ n ih =>
    intro x t k hn ht hx
    obtain ⟨e1, e2⟩ := tw_split isI x t ht.head
    by_cases h0 : x.takeWhile isI = []
    · refine .inr ⟨fun h => ?_, .inl (idsS_none (by rw [e1, h0]))⟩
      cases x with
      | nil => exact (h [] (by simp [spl])).1 rfl
      | cons c x =>
        have hc : isI c = false := by
          rw [List.takeWhile_cons] at h0
          cases hc : isI c
          · rfl
          · rw [hc] at h0; simp at h0
        by_cases h46 : c = 46
        · subst h46
          exact (h [] (by unfold spl; rw [if_pos rfl]; simp)).1 rfl
        · obtain ⟨q, qs, e⟩ := spl_head (c := 46) (a := []) (r := x) (fun x hx => by cases hx) h46
          have := (h ([] ++ c :: q) (by rw [show c :: x = [] ++ c :: x from rfl, e]; exact List.mem_cons_self ..)).2.1 c (by simp)
          rw [hc] at this; cases this
    · have hw : (x ++ t).takeWhile isI ≠ [] := by rw [e1]; exact h0
      have hwI := tw_all isI x
      have hjoin := tw_join isI x
      cases hr : x.dropWhile isI with
      | nil =>
        have hxw : x = x.takeWhile isI := by rw [hr, List.append_nil] at hjoin; exact hjoin
        have hs : spl 46 x = [x] := spl_one (fun c hc => (isI_not (hwI c (by rw [← hxw]; exact hc))).1)
        have hsk : skB 46 ((x ++ t).dropWhile isI) = false := by rw [e2, hr]; exact ht.dot
        rw [hs]
        cases hf : f x with
        | none =>
          refine .inr ⟨fun h => ?_, .inl (idsS_no hw (by rw [e1, ← hxw]; exact hf))⟩
          obtain ⟨_, _, e, he⟩ := h x (by simp); rw [hf] at he; cases he
        | some e =>
          refine .inl ⟨fun p hp => ?_, ?_⟩
          · rw [List.mem_singleton] at hp; subst hp
            exact ⟨by rw [hxw]; exact h0, fun c hc => hwI c (by rw [← hxw]; exact hc), e, hf⟩
          · rw [idsS_end hw (by rw [e1, ← hxw]; exact hf) hsk, e2, hr]; simp [hf]
      | cons c x' =>
        rw [hr] at hjoin
        have hcI := dw_head isI x c x' hr
        have hlen := congrArg List.length hjoin
        rw [List.length_append, List.length_cons] at hlen
        by_cases h46 : c = 46
        · subst h46
          have hsk : skB 46 ((x ++ t).dropWhile isI) = true := by rw [e2, hr]; rfl
          have hdr : ((x ++ t).dropWhile isI).drop 1 = x' ++ t := by rw [e2, hr]; rfl
          have hs : spl 46 x = x.takeWhile isI :: spl 46 x' := by
            conv => lhs; rw [hjoin]
            exact spl_app (fun c hc => (isI_not (hwI c hc)).1) x'
          cases hf : f (x.takeWhile isI) with
          | none =>
            refine .inr ⟨fun h => ?_, .inl (idsS_no hw (by rw [e1]; exact hf))⟩
            obtain ⟨_, _, e, he⟩ := h (x.takeWhile isI) (by rw [hs]; simp); rw [hf] at he; cases he
          | some e =>
            rw [idsS_on hw (by rw [e1]; exact hf) hsk, hdr]
            rcases ih x' t (k ++ e) (by omega) ht (fun c hc => hx c (by rw [hjoin]; simp [hc])) with ⟨h1, h2⟩ | ⟨h1, h2⟩
            · refine .inl ⟨fun p hp => ?_, ?_⟩
              · rw [hs] at hp
                rcases List.mem_cons.1 hp with rfl | hp
                · exact ⟨h0, hwI, e, hf⟩
                · exact h1 p hp
              · rw [h2, hs, List.flatMap_cons, hf]; simp
            · exact .inr ⟨fun h => h1 (fun p hp => h p (by rw [hs]; simp [hp])), h2⟩
        · have hsk : skB 46 ((x ++ t).dropWhile isI) = false := by
            rw [e2, hr]; unfold skB
            show ((c.toNat : Int) == _) = false
            exact ne_int (d := 46) h46
          obtain ⟨q, qs, hs⟩ := spl_head (c := 46) (a := x.takeWhile isI) (r := x') (fun c hc => (isI_not (hwI c hc)).1) h46
          rw [← hjoin] at hs
          refine .inr ⟨fun h => ?_, ?_⟩
          · have := (h (x.takeWhile isI ++ c :: q) (by rw [hs]; exact List.mem_cons_self ..)).2.1 c (by simp)
            rw [hcI] at this; cases this
          · cases hf : f (x.takeWhile isI) with
            | none => exact .inl (idsS_no hw (by rw [e1]; exact hf))
            | some e => exact .inr ⟨c, x' ++ t, k ++ e, by rw [idsS_end hw (by rw [e1]; exact hf) hsk, e2, hr]; rfl, hx c (by rw [hjoin]; simp)⟩
/-- the five steps through the three numbers -/
def nums5 (l : BL) : Option (BL × BL) := match pnumS l [] with
  | none => none
  | some p1 => match skS 46 p1.1 p1.2 with
    | none => none
    | some p2 => match pnumS p2.1 p2.2 with
      | none => none
      | some p3 => match skS 46 p3.1 p3.2 with
        | none => none
        | some p4 => pnumS p4.1 p4.2
def semTl (r k : BL) : Option BL := match preS r k with
  | none => none
  | some p6 => match bldS p6.1 p6.2 with
    | none => none
    | some p7 => if p7.1 = [] then some p7.2 else none
theorem semS_eq (l : BL) : semS l = match nums5 l with
  | none => none
  | some p => semTl p.1 p.2 := by
  unfold semS nums5 semTl
  cases pnumS l [] with
  | none => rfl
  | some p1 =>
    simp only []
    cases skS 46 p1.1 p1.2 with
    | none => rfl
    | some p2 =>
      simp only []
      cases pnumS p2.1 p2.2 with
      | none => rfl
      | some p3 =>
        simp only []
        cases skS 46 p3.1 p3.2 with
        | none => rfl
        | some p4 => rfl
theorem numB_iff (d : BL) : numB d = true ↔ (∀ c ∈ d, isD c = true) ∧ plainN d = true := by
  unfold numB; rw [Bool.and_eq_true, digs_iff]
  constructor
  · rintro ⟨⟨h, _⟩, h2⟩; exact ⟨h, h2⟩
  · rintro ⟨h, h2⟩; exact ⟨⟨h, by rintro rfl; cases h2⟩, h2⟩
theorem pnumS_inv {l k r k' : BL} (h : pnumS l k = some (r, k')) : ∃ d, l = d ++ r ∧ numB d = true ∧ k' = k ++ num d := by
  unfold pnumS at h
  split at h
  · rename_i hp
    injection h with h; injection h with h1 h2
    exact ⟨l.takeWhile isD, by rw [← h1]; exact tw_join isD l, (numB_iff _).2 ⟨tw_all isD l, hp⟩, h2.symm⟩
  · cases h
theorem pnumS_of {d r k : BL} (hd : numB d = true) (hr : ∀ c q, r = c :: q → isD c = false) : pnumS (d ++ r) k = some (r, k ++ num d) := by
  obtain ⟨h1, h2⟩ := (numB_iff d).1 hd
  obtain ⟨e1, e2⟩ := tw_app isD d r h1 hr
  unfold pnumS; rw [e1, e2, if_pos h2]
theorem skS_inv {c : UInt8} {l k r k' : BL} (h : skS c l k = some (r, k')) : l = c :: r ∧ k' = k := by
  unfold skS at h
  split at h
  · rename_i hp
    injection h with h; injection h with h1 h2
    cases l with
    | nil => cases hp
    | cons x l =>
      have : x = c := by
        have : (x.toNat : Int) = (c.toNat : Int) := by simpa [skB] using hp
        exact UInt8.toNat_inj.1 (by omega)
      subst this; exact ⟨by rw [← h1]; rfl, h2.symm⟩
  · cases h
theorem skS_of (c : UInt8) (r k : BL) : skS c (c :: r) k = some (r, k) := by unfold skS skB; simp
theorem nums5_inv {l r k : BL} (h : nums5 l = some (r, k)) : ∃ a b c, l = (a ++ 46 :: (b ++ 46 :: c)) ++ r ∧ numB a = true ∧ numB b = true ∧ numB c = true ∧ k = num a ++ (num b ++ num c) := by
  unfold nums5 at h
  cases h1 : pnumS l [] with
  | none => rw [h1] at h; cases h
  | some p1 =>
    rw [h1] at h; simp only [] at h
    obtain ⟨l1, k1⟩ := p1
    obtain ⟨a, rfl, ha, rfl⟩ := pnumS_inv h1
    cases h2 : skS 46 l1 ([] ++ num a) with
    | none => rw [h2] at h; cases h
    | some p2 =>
      rw [h2] at h; simp only [] at h
      obtain ⟨l2, k2⟩ := p2
      obtain ⟨rfl, rfl⟩ := skS_inv h2
      cases h3 : pnumS l2 ([] ++ num a) with
      | none => rw [h3] at h; cases h
      | some p3 =>
        rw [h3] at h; simp only [] at h
        obtain ⟨l3, k3⟩ := p3
        obtain ⟨b, rfl, hb, rfl⟩ := pnumS_inv h3
        cases h4 : skS 46 l3 ([] ++ num a ++ num b) with
        | none => rw [h4] at h; cases h
        | some p4 =>
          rw [h4] at h; simp only [] at h
          obtain ⟨l4, k4⟩ := p4
          obtain ⟨rfl, rfl⟩ := skS_inv h4
          obtain ⟨c, rfl, hc, rfl⟩ := pnumS_inv h
          exact ⟨a, b, c, by simp, ha, hb, hc, by simp⟩
theorem dot_nodig (r : BL) : ∀ c q, (46 : UInt8) :: r = c :: q → isD c = false := by
  intro c q e; injection e with e _; subst e; decide
theorem nums5_of {a b c r : BL} (ha : numB a = true) (hb : numB b = true) (hc : numB c = true) (hr : ∀ x q, r = x :: q → isD x = false) :
    nums5 ((a ++ 46 :: (b ++ 46 :: c)) ++ r) = some (r, num a ++ (num b ++ num c)) := by
  unfold nums5
  rw [List.append_assoc, List.cons_append, List.append_assoc, List.cons_append, pnumS_of ha (dot_nodig _)]
  simp only []
  rw [skS_of]
  simp only []
  rw [pnumS_of hb (dot_nodig _)]
  simp only []
  rw [skS_of]
  simp only []
  rw [pnumS_of hc hr]; simp
theorem digs_no46 {d : BL} (h : numB d = true) : ∀ x ∈ d, x ≠ 46 := by
  intro x hx e; subst e; exact absurd (((numB_iff d).1 h).1 _ hx) (by decide)
theorem spl_three {a b c : BL} (ha : ∀ x ∈ a, x ≠ 46) (hb : ∀ x ∈ b, x ≠ 46) (hc : ∀ x ∈ c, x ≠ 46) : spl 46 (a ++ 46 :: (b ++ 46 :: c)) = [a, b, c] := by
  rw [spl_app ha, spl_app hb, spl_one hc]
theorem spl_join (c : UInt8) : ∀ (l : BL) (p : BL) (ps : List BL), spl c l = p :: ps → (∀ x ∈ p, x ≠ c) ∧ (ps = [] ∧ l = p ∨ ∃ r, l = p ++ c :: r ∧ spl c r = ps)
  | [], p, ps, h => by
    rw [show spl c [] = [[]] from rfl] at h; injection h with h1 h2; subst h1 h2
    exact ⟨(fun x hx => by cases hx), .inl ⟨rfl, rfl⟩⟩
  | b :: l, p, ps, h => by
    unfold spl at h
    by_cases hb : b = c
    · rw [if_pos hb] at h; injection h with h1 h2; subst h1 hb
      exact ⟨(fun x hx => by cases hx), .inr ⟨l, rfl, h2⟩⟩
    · rw [if_neg hb] at h
      cases hs : spl c l with
      | nil => exact absurd hs (spl_ne c l)
      | cons q qs =>
        rw [hs] at h; injection h with h1 h2; subst h1 h2
        obtain ⟨i1, i2⟩ := spl_join c l q qs hs
        refine ⟨fun x hx => ?_, ?_⟩
        · rcases List.mem_cons.1 hx with rfl | hx
          · exact hb
          · exact i1 x hx
        · rcases i2 with ⟨e, rfl⟩ | ⟨r, rfl, e⟩
          · exact .inl ⟨e, rfl⟩
          · exact .inr ⟨r, rfl, e⟩
theorem spl_three_inv {core a b c : BL} (h : spl 46 core = [a, b, c]) : core = a ++ 46 :: (b ++ 46 :: c) := by
  obtain ⟨_, h1⟩ := spl_join 46 core a _ h
  rcases h1 with ⟨e, _⟩ | ⟨r, rfl, h1⟩
  · cases e
  obtain ⟨_, h2⟩ := spl_join 46 r b _ h1
  rcases h2 with ⟨e, _⟩ | ⟨r2, rfl, h2⟩
  · cases e
  obtain ⟨_, h3⟩ := spl_join 46 r2 c _ h2
  rcases h3 with ⟨_, rfl⟩ | ⟨r3, rfl, h3⟩
  · rfl
  · exact absurd h3 (spl_ne 46 r3)
end Go.Proofs.YtceeilojcifgeaaDoor
