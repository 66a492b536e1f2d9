/-
  Stable sorting, plain: elements with tags (their first places); what the insertion sort, the exchange of ranges, the rotation and the merge in place do to them. No program is spoken of here.
-/
import Derived.Sort.LotA
namespace Go.Proofs.YtdjknefbaclleaaGreatDoor
open Go.Sort
section
variable {β : Type} [Inhabited β]

/-- less, and of two equals the one with the smaller tag -/
def tl (lt : β → β → Bool) (x y : β × Nat) : Bool := lt x.1 y.1 || (!lt y.1 x.1 && decide (x.2 < y.2))
omit [Inhabited β] in
theorem tl_iff {lt : β → β → Bool} {x y : β × Nat} : tl lt x y = true ↔ lt x.1 y.1 = true ∨ (lt y.1 x.1 = false ∧ x.2 < y.2) := by
  unfold tl; cases lt x.1 y.1 <;> cases lt y.1 x.1 <;> simp
omit [Inhabited β] in
theorem tl_not {lt : β → β → Bool} {x y : β × Nat} : tl lt x y = false ↔ lt x.1 y.1 = false ∧ (lt y.1 x.1 = true ∨ y.2 ≤ x.2) := by
  unfold tl; cases lt x.1 y.1 <;> cases lt y.1 x.1 <;> simp [Nat.not_lt]
omit [Inhabited β] in
theorem tl_swo {lt : β → β → Bool} (h : SWO lt) : SWO (tl lt) where
  irrefl x := by rw [tl_not]; exact ⟨h.irrefl _, .inr (Nat.le_refl _)⟩
  trans x y z h1 h2 := by
    rw [tl_iff] at *
    rcases h1 with h1 | ⟨h1, i1⟩
    · rcases h2 with h2 | ⟨h2, i2⟩
      · exact .inl (h.trans _ _ _ h1 h2)
      · left
        cases e : lt x.1 z.1
        · rw [h.ntrans _ _ _ e h2] at h1; cases h1
        · rfl
    · rcases h2 with h2 | ⟨h2, i2⟩
      · left
        cases e : lt x.1 z.1
        · rw [h.ntrans _ _ _ h1 e] at h2; cases h2
        · rfl
      · exact .inr ⟨h.ntrans _ _ _ h2 h1, Nat.lt_trans i1 i2⟩
  ntrans x y z h1 h2 := by
    rw [tl_not] at *
    obtain ⟨a1, b1⟩ := h1; obtain ⟨a2, b2⟩ := h2
    refine ⟨h.ntrans _ _ _ a1 a2, ?_⟩
    rcases b1 with b1 | b1
    · left
      cases e : lt z.1 x.1
      · rw [h.ntrans _ _ _ a2 e] at b1; cases b1
      · rfl
    · rcases b2 with b2 | b2
      · left
        cases e : lt z.1 x.1
        · rw [h.ntrans _ _ _ e a1] at b2; cases b2
        · rfl
      · exact .inr (Nat.le_trans b2 b1)
omit [Inhabited β] in
theorem tl_right {lt : β → β → Bool} {x y : β × Nat} (h : y.2 < x.2) : tl lt x y = lt x.1 y.1 := by
  cases e : lt x.1 y.1
  · rw [tl_not]; exact ⟨e, .inr (Nat.le_of_lt h)⟩
  · rw [tl_iff]; exact .inl e
omit [Inhabited β] in
theorem tl_tot {lt : β → β → Bool} {x y : β × Nat} (hne : x.2 ≠ y.2) (h : tl lt x y = false) : tl lt y x = true := by
  rw [tl_not] at h; rw [tl_iff]
  obtain ⟨h1, h2 | h2⟩ := h
  · exact .inl h2
  · exact .inr ⟨h1, by omega⟩
/-- ascending, strictly -/
def StO (lt : β → β → Bool) (a b : Nat) (d : Array (β × Nat)) : Prop := ∀ i j, a ≤ i → i < j → j < b → tl lt d[i]! d[j]! = true
/-- the tags before m are less than those behind it -/
def Cr (a m b : Nat) (d : Array (β × Nat)) : Prop := ∀ i j, a ≤ i → i < m → m ≤ j → j < b → d[i]!.2 < d[j]!.2

theorem insInner_perm {γ : Type} [Inhabited γ] (lt : γ → γ → Bool) (a b : Nat) : ∀ (j : Nat) (d : Array γ), a ≤ j → j < b → b ≤ d.size → PermIn a b d (insInner lt a j d)
  | 0, d, _, _, _ => by unfold insInner; exact permIn_refl _ _ _
  | j + 1, d, h1, h2, h3 => by
    unfold insInner; split
    · rename_i hc
      simp only [Bool.and_eq_true, decide_eq_true_eq] at hc
      exact permIn_trans _ _ _ _ _ (swp_permIn d a b (j + 1) j h1 h2 (by omega) (by omega) h3) (insInner_perm lt a b j _ (by omega) (by omega) (by rw [size_swp]; exact h3))
    · exact permIn_refl _ _ _
theorem insInner_tag (lt : β → β → Bool) (a : Nat) : ∀ (j : Nat) (d : Array (β × Nat)), j < d.size → (∀ k, a ≤ k → k < j → d[k]!.2 < d[j]!.2) →
    insInner (fun x y : β × Nat => lt x.1 y.1) a j d = insInner (tl lt) a j d
  | 0, d, _, _ => by unfold insInner; rfl
  | j + 1, d, hj, h => by
    unfold insInner
    by_cases hja : j + 1 > a
    · have e : tl lt d[j + 1]! d[j]! = lt d[j + 1]!.1 d[j]!.1 := tl_right (h j (by omega) (by omega))
      rw [e]
      split
      · refine insInner_tag lt a j _ (by rw [size_swp]; omega) (fun k h1 h2 => ?_)
        rw [swp_get d hj (by omega), swp_get d hj (by omega), if_neg (by omega), if_neg (by omega), if_pos rfl]
        exact h k h1 (by omega)
      · rfl
    · simp [hja]
theorem insO_stop {γ : Type} [Inhabited γ] (lt : γ → γ → Bool) {a b i : Nat} (d : Array γ) (h : ¬ i < b) : insOuter lt a b i d = d := by rw [insOuter, if_neg h]
theorem insO_go {γ : Type} [Inhabited γ] (lt : γ → γ → Bool) {a b i : Nat} (d : Array γ) (h : i < b) : insOuter lt a b i d = insOuter lt a b (i + 1) (insInner lt a i d) := by rw [insOuter, if_pos h]
theorem insOuter_tag (lt : β → β → Bool) (a b : Nat) : ∀ (n i : Nat) (d : Array (β × Nat)), b - i = n → a < i → b ≤ d.size →
    (∀ p q, a ≤ p → p < i → i ≤ q → q < b → d[p]!.2 < d[q]!.2) → (∀ p q, i ≤ p → p < q → q < b → d[p]!.2 < d[q]!.2) →
    insOuter (fun x y : β × Nat => lt x.1 y.1) a b i d = insOuter (tl lt) a b i d
  | 0, i, d, hn, _, _, _, _ => by rw [insO_stop _ _ (by omega), insO_stop _ _ (by omega)]
  | n + 1, i, d, hn, hai, hb, h1, h2 => by
    have hib : i < b := by omega
    rw [insO_go _ _ hib, insO_go (tl lt) _ hib, insInner_tag lt a i d (by omega) (fun k hk hki => h1 k i hk hki (Nat.le_refl _) hib)]
    have hp := insInner_perm (tl lt) a (i + 1) i d (by omega) (by omega) (by omega)
    generalize insInner (tl lt) a i d = e at hp
    refine insOuter_tag lt a b n (i + 1) e (by omega) (by omega) (by rw [hp.1]; exact hb) (fun p q hp1 hp2 hq1 hq2 => ?_) (fun p q hp1 hpq hq => ?_)
    · rw [hp.2.1 q (.inr hq1)]
      refine permIn_all d e a (i + 1) (fun x => x.2 < d[q]!.2) (by omega) hp (fun k hk1 hk2 => ?_) p hp1 hp2
      by_cases hki : k < i
      · exact h1 k q hk1 hki (by omega) hq2
      · obtain rfl : k = i := by omega
        exact h2 k q (Nat.le_refl _) (by omega) hq2
    · rw [hp.2.1 q (.inr (by omega)), hp.2.1 p (.inr hp1)]
      exact h2 p q (by omega) hpq hq
/-- tags that are not twice there -/
def Dis (a b : Nat) (d : Array (β × Nat)) : Prop := ((d.extract a b).toList.map (·.2)).Nodup
theorem dis_of {a b : Nat} {d : Array (β × Nat)} (hb : b ≤ d.size) (h : ∀ p q, a ≤ p → p < q → q < b → d[p]!.2 ≠ d[q]!.2) : Dis a b d := by
  unfold Dis
  rw [extract_toList d a b hb, List.map_map]
  unfold List.Nodup
  rw [List.pairwise_iff_getElem]
  intro i j hi hj hij
  simp at hi hj ⊢
  exact h _ _ (by omega) (by omega) (by omega)
theorem Dis.ne {a b : Nat} {d : Array (β × Nat)} (h : Dis a b d) (hb : b ≤ d.size) {p q : Nat} (h1 : a ≤ p) (h2 : p < q) (h3 : q < b) : d[p]!.2 ≠ d[q]!.2 := by
  unfold Dis at h
  rw [extract_toList d a b hb, List.map_map] at h
  unfold List.Nodup at h
  rw [List.pairwise_iff_getElem] at h
  have := h (p - a) (q - a) (by simp; omega) (by simp; omega) (by omega)
  simp at this
  rwa [show a + (p - a) = p by omega, show a + (q - a) = q by omega] at this
theorem Dis.perm {a b : Nat} {d e : Array (β × Nat)} (h : Dis a b d) (hp : PermIn a b d e) : Dis a b e := by
  unfold Dis at *
  exact ((hp.2.2.map (·.2)).nodup_iff).2 h
theorem st_of_sorted {lt : β → β → Bool} {a b : Nat} {d : Array (β × Nat)} (hb : b ≤ d.size) (h : SortedIn (tl lt) a b d) (hd : Dis a b d) : StO lt a b d :=
  fun i j h1 h2 h3 => tl_tot (fun e => hd.ne hb h1 h2 h3 e.symm) (h i j h1 h2 h3)
/-- the insertion sort, at tags that ascend -/
theorem ins_st {lt : β → β → Bool} (hS : SWO lt) {a b : Nat} {d : Array (β × Nat)} (hab : a ≤ b) (hb : b ≤ d.size) (ht : ∀ p q, a ≤ p → p < q → q < b → d[p]!.2 < d[q]!.2) :
    PermIn a b d (insertionSort (fun x y : β × Nat => lt x.1 y.1) d a b) ∧ StO lt a b (insertionSort (fun x y : β × Nat => lt x.1 y.1) d a b) := by
  have e : insertionSort (fun x y : β × Nat => lt x.1 y.1) d a b = insertionSort (tl lt) d a b := by
    unfold insertionSort
    by_cases h : a < b
    · refine insOuter_tag lt a b _ (a + 1) d rfl (by omega) hb (fun p q h1 h2 h3 h4 => ht p q h1 (by omega) h4) (fun p q h1 h2 h3 => ht p q (by omega) h2 h3)
    · rw [insO_stop _ _ (by omega), insO_stop _ _ (by omega)]
  rw [e]
  obtain ⟨h1, h2⟩ := insertionSort_holds (tl_swo hS) d a b hab hb
  refine ⟨h1, st_of_sorted (by rw [h1.1]; exact hb) h2 (Dis.perm (dis_of hb (fun p q h1 h2 h3 => Nat.ne_of_lt (ht p q h1 h2 h3))) h1)⟩
end
section
variable {γ : Type} [Inhabited γ]
/-- the exchange of two ranges -/
def swr (d : Array γ) (a b : Nat) : Nat → Array γ
  | 0 => d
  | n + 1 => swp (swr d a b n) (a + n) (b + n)
theorem size_swr (d : Array γ) (a b : Nat) : ∀ n, (swr d a b n).size = d.size
  | 0 => rfl
  | n + 1 => by rw [swr, size_swp, size_swr]
theorem swr_get (d : Array γ) (a b : Nat) : ∀ n, a + n ≤ b → b + n ≤ d.size → ∀ k, (swr d a b n)[k]! = if a ≤ k ∧ k < a + n then d[k + (b - a)]! else if b ≤ k ∧ k < b + n then d[k - (b - a)]! else d[k]!
  | 0, _, _, k => by rw [swr, if_neg (by omega), if_neg (by omega)]
  | n + 1, h1, h2, k => by
    have ih := swr_get d a b n (by omega) (by omega)
    rw [swr, swp_get _ (by rw [size_swr]; omega) (by rw [size_swr]; omega), ih k, ih (a + n), ih (b + n)]
    repeat' split
    all_goals first
      | omega
      | exact congrArg (fun t => d[t]!) (by omega)
theorem swr_perm (d : Array γ) (a b lo hi : Nat) (h1 : lo ≤ a) (h3 : hi ≤ d.size) : ∀ n, a + n ≤ b → b + n ≤ hi → PermIn lo hi d (swr d a b n)
  | 0, _, _ => permIn_refl _ _ _
  | n + 1, h4, h5 => by
    rw [swr]
    exact permIn_trans _ _ _ _ _ (swr_perm d a b lo hi h1 h3 n (by omega) (by omega)) (swp_permIn _ _ _ _ _ (by omega) (by omega) (by omega) (by omega) (by rw [size_swr]; exact h3))
/-- what is still to be rotated, from m - i to m + j about m, would give G -/
def RotI (G : Nat → γ) (m i j : Nat) (d : Array γ) : Prop := ∀ k, G k = if m - i ≤ k ∧ k < m - i + j then d[k + i]! else if m - i + j ≤ k ∧ k < m + j then d[k - j]! else d[k]!
theorem rot_gt {G : Nat → γ} {m i j : Nat} {d : Array γ} (h : RotI G m i j d) (hij : j < i) (him : i ≤ m) (hs : m + j ≤ d.size) : RotI G m (i - j) j (swr d (m - i) m j) := by
  intro k
  have g := swr_get d (m - i) m j (by omega) (by omega)
  rw [h k, g, g, g]
  repeat' split
  all_goals first
    | omega
    | exact congrArg (fun t => d[t]!) (by omega)
theorem rot_lt {G : Nat → γ} {m i j : Nat} {d : Array γ} (h : RotI G m i j d) (hij : i < j) (him : i ≤ m) (hs : m + j ≤ d.size) : RotI G m i (j - i) (swr d (m - i) (m + j - i) i) := by
  intro k
  have g := swr_get d (m - i) (m + j - i) i (by omega) (by omega)
  rw [h k, g, g, g]
  repeat' split
  all_goals first
    | omega
    | exact congrArg (fun t => d[t]!) (by omega)
theorem rot_eq {G : Nat → γ} {m i : Nat} {d : Array γ} (h : RotI G m i i d) (him : i ≤ m) (hs : m + i ≤ d.size) (k : Nat) : (swr d (m - i) m i)[k]! = G k := by
  have g := swr_get d (m - i) m i (by omega) (by omega)
  rw [h k, g]
  repeat' split
  all_goals first
    | omega
    | exact congrArg (fun t => d[t]!) (by omega)
/-- e is d, from a to b rotated about m -/
def Rot (d e : Array γ) (a m b : Nat) : Prop := ∀ k, e[k]! = if a ≤ k ∧ k < a + (b - m) then d[k + (m - a)]! else if a + (b - m) ≤ k ∧ k < b then d[k - (b - m)]! else d[k]!
def rotG (d : Array γ) (a m b : Nat) (k : Nat) : γ := if a ≤ k ∧ k < a + (b - m) then d[k + (m - a)]! else if a + (b - m) ≤ k ∧ k < b then d[k - (b - m)]! else d[k]!
theorem rot_start (d : Array γ) {a m b : Nat} (h1 : a ≤ m) (h2 : m ≤ b) : RotI (rotG d a m b) m (m - a) (b - m) d := by
  intro k
  unfold rotG
  rw [show m - (m - a) = a by omega, show m + (b - m) = b by omega]
theorem rot_triv (d : Array γ) {a m b : Nat} (h1 : a ≤ m) (h2 : m ≤ b) (h : a = m ∨ m = b) : Rot d d a m b := by
  intro k
  repeat' split
  all_goals first
    | rfl
    | (exfalso; omega)
    | exact congrArg (fun t => d[t]!) (by omega)
/-- e is d, the element a moved up to the place before i -/
def MvR (d e : Array γ) (a i : Nat) : Prop := ∀ k, e[k]! = if a ≤ k ∧ k + 1 < i then d[k + 1]! else if k + 1 = i then d[a]! else d[k]!
theorem mvR_start (d : Array γ) (a : Nat) : MvR d d a (a + 1) := by
  intro k
  repeat' split
  all_goals first
    | rfl
    | (exfalso; omega)
    | exact congrArg (fun t => d[t]!) (by omega)
theorem mvR_step {d e : Array γ} {a k : Nat} (h : MvR d e a (k + 1)) (ha : a ≤ k) (hs : k + 1 < e.size) : MvR d (swp e k (k + 1)) a (k + 2) := by
  intro q
  rw [swp_get e (by omega) hs, h q, h k, h (k + 1)]
  repeat' split
  all_goals first
    | rfl
    | (exfalso; omega)
    | exact congrArg (fun t => d[t]!) (by omega)
/-- e is d, the element m moved down to the place i -/
def MvL (d e : Array γ) (m i : Nat) : Prop := ∀ k, e[k]! = if i < k ∧ k ≤ m then d[k - 1]! else if k = i then d[m]! else d[k]!
theorem mvL_start (d : Array γ) (m : Nat) : MvL d d m m := by
  intro k
  repeat' split
  all_goals first
    | rfl
    | (exfalso; omega)
    | exact congrArg (fun t => d[t]!) (by omega)
theorem mvL_step {d e : Array γ} {m k : Nat} (h : MvL d e m (k + 1)) (hk : k + 1 ≤ m) (hs : k + 1 < e.size) : MvL d (swp e (k + 1) k) m k := by
  intro q
  rw [swp_get e hs (by omega), h q, h k, h (k + 1)]
  repeat' split
  all_goals first
    | rfl
    | (exfalso; omega)
    | exact congrArg (fun t => d[t]!) (by omega)
end
section
variable {β : Type} [Inhabited β]
/-- what the merge in place is handed -/
structure SmPre (lt : β → β → Bool) (a m b : Nat) (d : Array (β × Nat)) : Prop where
  l : StO lt a m d
  r : StO lt m b d
  c : Cr a m b d
  s : b ≤ d.size
theorem SmPre.cmp {lt : β → β → Bool} {a m b : Nat} {d : Array (β × Nat)} (h : SmPre lt a m b d) {i j : Nat} (h1 : a ≤ i) (h2 : i < m) (h3 : m ≤ j) (h4 : j < b) : tl lt d[j]! d[i]! = lt d[j]!.1 d[i]!.1 :=
  tl_right (h.c i j h1 h2 h3 h4)
theorem SmPre.tot {lt : β → β → Bool} {a m b : Nat} {d : Array (β × Nat)} (h : SmPre lt a m b d) {i j : Nat} (h1 : a ≤ i) (h2 : i < m) (h3 : m ≤ j) (h4 : j < b) (hl : lt d[j]!.1 d[i]!.1 = false) : tl lt d[i]! d[j]! = true :=
  tl_tot (fun e => by have := h.c i j h1 h2 h3 h4; omega) ((h.cmp h1 h2 h3 h4).trans hl)
theorem StO.mono {lt : β → β → Bool} {a b a' b' : Nat} {d : Array (β × Nat)} (h : StO lt a b d) (h1 : a ≤ a') (h2 : b' ≤ b) : StO lt a' b' d := fun i j i1 i2 i3 => h i j (by omega) i2 (by omega)
theorem sm_one_left {lt : β → β → Bool} (hS : SWO lt) {a b i : Nat} {d e : Array (β × Nat)} (h : SmPre lt a (a + 1) b d) (hi : a + 1 ≤ i) (hib : i ≤ b) (h1 : i = a + 1 ∨ lt d[i - 1]!.1 d[a]!.1 = true) (h2 : i = b ∨ lt d[i]!.1 d[a]!.1 = false) (he : MvR d e a i) : StO lt a b e := by
  have low : ∀ k, a + 1 ≤ k → k < i → tl lt d[k]! d[a]! = true := fun k hk hki => by
    rcases h1 with h1 | h1
    · omega
    · have h3 : tl lt d[i - 1]! d[a]! = true := (h.cmp (Nat.le_refl _) (by omega) (by omega) (by omega)).trans h1
      by_cases hk2 : k = i - 1
      · rw [hk2]; exact h3
      · exact (tl_swo hS).trans _ _ _ (h.r k (i - 1) hk (by omega) (by omega)) h3
  have high : ∀ k, i ≤ k → k < b → tl lt d[a]! d[k]! = true := fun k hk hkb => by
    rcases h2 with h2 | h2
    · omega
    · have h3 : tl lt d[a]! d[i]! = true := h.tot (Nat.le_refl _) (by omega) (by omega) (by omega) h2
      by_cases hk2 : k = i
      · rw [hk2]; exact h3
      · exact (tl_swo hS).trans _ _ _ h3 (h.r i k (by omega) (by omega) (by omega))
  intro p q hp hpq hq
  rw [he p, he q]
  repeat' split
  all_goals first
    | (exfalso; omega)
    | exact h.r _ _ (by omega) (by omega) (by omega)
    | exact low _ (by omega) (by omega)
    | exact high _ (by omega) (by omega)
theorem sm_one_right {lt : β → β → Bool} (hS : SWO lt) {a m i : Nat} {d e : Array (β × Nat)} (h : SmPre lt a m (m + 1) d) (hi : a ≤ i) (him : i ≤ m) (h1 : i = a ∨ lt d[m]!.1 d[i - 1]!.1 = false) (h2 : i = m ∨ lt d[m]!.1 d[i]!.1 = true) (he : MvL d e m i) : StO lt a (m + 1) e := by
  have low : ∀ k, a ≤ k → k < i → tl lt d[k]! d[m]! = true := fun k hk hki => by
    rcases h1 with h1 | h1
    · omega
    · have h3 : tl lt d[i - 1]! d[m]! = true := h.tot (by omega) (by omega) (by omega) (by omega) h1
      by_cases hk2 : k = i - 1
      · rw [hk2]; exact h3
      · exact (tl_swo hS).trans _ _ _ (h.l k (i - 1) hk (by omega) (by omega)) h3
  have high : ∀ k, i ≤ k → k < m → tl lt d[m]! d[k]! = true := fun k hk hkb => by
    rcases h2 with h2 | h2
    · omega
    · have h3 : tl lt d[m]! d[i]! = true := (h.cmp (by omega) (by omega) (by omega) (by omega)).trans h2
      by_cases hk2 : k = i
      · rw [hk2]; exact h3
      · exact (tl_swo hS).trans _ _ _ h3 (h.l i k (by omega) (by omega) (by omega))
  intro p q hp hpq hq
  rw [he p, he q]
  repeat' split
  all_goals first
    | (exfalso; omega)
    | exact h.l _ _ (by omega) (by omega) (by omega)
    | exact low _ (by omega) (by omega)
    | exact high _ (by omega) (by omega)
/-- behind the rotation -/
theorem sm_rot {lt : β → β → Bool} (hS : SWO lt) {a m b s t mid : Nat} {d e : Array (β × Nat)} (h : SmPre lt a m b d) (h1 : a ≤ s) (h2 : s ≤ m) (h3 : m ≤ t) (h4 : t ≤ b) (hmid : mid = s + (t - m))
    (k1 : s = a ∨ t = b ∨ lt d[t]!.1 d[s - 1]!.1 = false) (k2 : s = m ∨ t = m ∨ lt d[t - 1]!.1 d[s]!.1 = true) (he : Rot d e s m t) (hes : e.size = d.size) :
    SmPre lt a s mid e ∧ SmPre lt mid t b e ∧ (∀ x y, a ≤ x → x < mid → mid ≤ y → y < b → tl lt e[x]! e[y]! = true) := by
  have lr : ∀ x y, a ≤ x → x < s → t ≤ y → y < b → tl lt d[x]! d[y]! = true := fun x y hx hxs hy hyb => by
    rcases k1 with k1 | k1 | k1
    · omega
    · omega
    · have h5 : tl lt d[s - 1]! d[t]! = true := h.tot (by omega) (by omega) (by omega) (by omega) k1
      have h6 : tl lt d[x]! d[t]! = true := by
        by_cases hx2 : x = s - 1
        · rw [hx2]; exact h5
        · exact (tl_swo hS).trans _ _ _ (h.l x (s - 1) hx (by omega) (by omega)) h5
      by_cases hy2 : y = t
      · rw [hy2]; exact h6
      · exact (tl_swo hS).trans _ _ _ h6 (h.r t y (by omega) (by omega) (by omega))
  have rl : ∀ y x, m ≤ y → y < t → s ≤ x → x < m → tl lt d[y]! d[x]! = true := fun y x hy hyt hx hxm => by
    rcases k2 with k2 | k2 | k2
    · omega
    · omega
    · have h5 : tl lt d[t - 1]! d[s]! = true := (h.cmp (by omega) (by omega) (by omega) (by omega)).trans k2
      have h6 : tl lt d[y]! d[s]! = true := by
        by_cases hy2 : y = t - 1
        · rw [hy2]; exact h5
        · exact (tl_swo hS).trans _ _ _ (h.r y (t - 1) hy (by omega) (by omega)) h5
      by_cases hx2 : x = s
      · rw [hx2]; exact h6
      · exact (tl_swo hS).trans _ _ _ h6 (h.l s x (by omega) (by omega) (by omega))
  have hsz := h.s
  refine ⟨⟨?_, ?_, ?_, by omega⟩, ⟨?_, ?_, ?_, by omega⟩, ?_⟩
  · intro p q hp hpq hq
    rw [he p, he q, if_neg (by omega), if_neg (by omega), if_neg (by omega), if_neg (by omega)]
    exact h.l p q hp hpq (by omega)
  · intro p q hp hpq hq
    rw [he p, he q, if_pos (by omega), if_pos (by omega)]
    exact h.r _ _ (by omega) (by omega) (by omega)
  · intro p q hp hps hq hqm
    rw [he p, he q, if_neg (by omega), if_neg (by omega), if_pos (by omega)]
    exact h.c _ _ (by omega) (by omega) (by omega) (by omega)
  · intro p q hp hpq hq
    rw [he p, he q, if_neg (by omega), if_pos (by omega), if_neg (by omega), if_pos (by omega)]
    exact h.l _ _ (by omega) (by omega) (by omega)
  · intro p q hp hpq hq
    rw [he p, he q, if_neg (by omega), if_neg (by omega), if_neg (by omega), if_neg (by omega)]
    exact h.r p q (by omega) hpq hq
  · intro p q hp hps hq hqm
    rw [he p, he q, if_neg (by omega), if_pos (by omega), if_neg (by omega), if_neg (by omega)]
    exact h.c _ _ (by omega) (by omega) (by omega) (by omega)
  · intro x y hx hxm hy hyb
    rw [he x, he y]
    repeat' split
    all_goals first
      | (exfalso; omega)
      | exact h.l _ _ (by omega) (by omega) (by omega)
      | exact h.r _ _ (by omega) (by omega) (by omega)
      | exact lr _ _ (by omega) (by omega) (by omega) (by omega)
      | exact rl _ _ (by omega) (by omega) (by omega) (by omega)
theorem sm_join {lt : β → β → Bool} {a b mid : Nat} {e f g : Array (β × Nat)} (hb : b ≤ e.size) (hmb : mid ≤ b) (hx : ∀ x y, a ≤ x → x < mid → mid ≤ y → y < b → tl lt e[x]! e[y]! = true)
    (p1 : PermIn a mid e f) (s1 : StO lt a mid f) (p2 : PermIn mid b f g) (s2 : StO lt mid b g) : StO lt a b g := by
  intro x y hax hxy hyb
  by_cases hy : y < mid
  · rw [p2.2.1 x (.inl (by omega)), p2.2.1 y (.inl hy)]
    exact s1 x y hax hxy hy
  · by_cases hxm : x < mid
    · rw [p2.2.1 x (.inl hxm)]
      refine permIn_all f g mid b (fun z => tl lt f[x]! z = true) (by rw [p1.1]; exact hb) p2 (fun k hk hkb => ?_) y (by omega) hyb
      rw [p1.2.1 k (.inr hk)]
      exact permIn_all e f a mid (fun z => tl lt z e[k]! = true) (by omega) p1 (fun q hq hqm => hx q k hq hqm hk hkb) x hax hxm
    · exact s2 x y (by omega) hxy hyb
theorem sm_skip {lt : β → β → Bool} {a s mid : Nat} {e : Array (β × Nat)} (h : SmPre lt a s mid e) (hs : ¬ (a < s ∧ s < mid)) : StO lt a mid e := by
  by_cases h1 : a < s
  · exact h.l.mono (Nat.le_refl _) (by omega)
  · exact h.r.mono (by omega) (Nat.le_refl _)
end
end Go.Proofs.YtdjknefbaclleaaGreatDoor
