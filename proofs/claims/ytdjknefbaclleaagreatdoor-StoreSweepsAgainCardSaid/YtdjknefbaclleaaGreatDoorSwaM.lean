/-
  Stores: a second sweep (plain): what is kept reaches the same.
-/
import Derived.Test.YtdjknefbaclleaaGreatDoorSweC
namespace Go.Proofs.YtdjknefbaclleaaGreatDoor
open Go.RowKit Go.Sort

theorem fnd_bp : ∀ {l l' : List Bl} (_ : l.map bp = l'.map bp) (d : List Int), (fnd l d).map Bl.b = (fnd l' d).map Bl.b
  | [], [], _, _ => rfl
  | [], y :: l', h, _ => by cases h
  | x :: l, [], h, _ => by cases h
  | x :: l, y :: l', h, d => by
    rw [List.map_cons, List.map_cons] at h
    injection h with h1 h2
    have ih := fnd_bp h2 d
    have e1 : x.d = y.d := congrArg Prod.fst h1
    have e2 : x.b = y.b := congrArg Prod.snd h1
    unfold fnd at ih ⊢
    rw [List.find?_cons, List.find?_cons]
    by_cases hd : y.d = d
    · rw [e1, decide_eq_true hd]; simp [e2]
    · rw [e1, decide_eq_false hd]; exact ih
theorem lnkB_b {x y : Bl} (h : x.b = y.b) : lnkB x = lnkB y := by unfold lnkB; rw [h]
theorem Rch.into {l l' : List Bl} {R : List (List Int)} (hf : ∀ d x, Rch l R d → fnd l d = some x → ∃ y, fnd l' d = some y ∧ y.b = x.b) {d : List Int} (h : Rch l R d) : Rch l' R d := by
  induction h with
  | root h hz => exact .root h hz
  | link h hx he ih =>
    obtain ⟨y, hy, hb⟩ := hf _ _ h hx
    exact .link ih hy (by rw [lnkB_b hb]; exact he)
theorem fnd_kept (l : List Bl) (P : List (List Int)) (d : List Int) : fnd (keptL l P) d = if d ∈ P then fnd l d else none := by
  unfold fnd keptL
  induction l with
  | nil => split <;> rfl
  | cons x l ih =>
    rw [List.filter_cons, List.find?_cons]
    by_cases hx : x.d ∈ P
    · rw [if_pos (by simpa using hx), List.find?_cons]
      by_cases hd : x.d = d
      · subst hd; simp [hx]
      · rw [decide_eq_false hd]; exact ih
    · rw [if_neg (by simpa using hx), ih]
      by_cases hd : x.d = d
      · subst hd; simp [hx]
      · rw [decide_eq_false hd]
/-- a list of the same blobs as what is kept -/
theorem kept_fnd {l X : List Bl} {P : List (List Int)} (hX : X.map bp = (keptL l P).map bp) {d : List Int} (hd : d ∈ P) {x : Bl} (hx : fnd l d = some x) : ∃ y, fnd X d = some y ∧ y.b = x.b := by
  have h := fnd_bp hX d
  rw [fnd_kept, if_pos hd, hx] at h
  cases hy : fnd X d with
  | none => rw [hy] at h; cases h
  | some y => rw [hy] at h; exact ⟨y, rfl, Option.some.inj h⟩
theorem fnd_kept' {l X : List Bl} {P : List (List Int)} (hX : X.map bp = (keptL l P).map bp) {d : List Int} {y : Bl} (hy : fnd X d = some y) : d ∈ P ∧ ∃ x, fnd l d = some x ∧ x.b = y.b := by
  have h := fnd_bp hX d
  rw [fnd_kept, hy] at h
  by_cases hd : d ∈ P
  · rw [if_pos hd] at h
    cases hx : fnd l d with
    | none => rw [hx] at h; cases h
    | some x => rw [hx] at h; exact ⟨hd, x, rfl, (Option.some.inj h).symm⟩
  · rw [if_neg hd] at h; cases h
theorem kept_rch {l X : List Bl} {R P M : List (List Int)} (h : CloD l R P M) (hX : X.map bp = (keptL l P).map bp) {d : List Int} : Rch X R d ↔ Rch l R d :=
  ⟨fun hr => hr.into (fun e y _ hy => by obtain ⟨_, x, hx, hb⟩ := fnd_kept' hX hy; exact ⟨x, hx, hb⟩),
   fun hr => hr.into (fun e x he hx => kept_fnd hX ((h.memP e).2 ⟨he, x, hx⟩) hx)⟩
/-- what is present stays so -/
theorem kept_present {l X : List Bl} {R P M P' M' : List (List Int)} (h : CloD l R P M) (hX : X.map bp = (keptL l P).map bp) (h' : CloD X R P' M') : P' = P :=
  srt_uniq h'.srtP h.srtP (fun d => by
    rw [h'.memP, h.memP, kept_rch h hX]
    constructor
    · rintro ⟨hr, y, hy⟩
      obtain ⟨_, x, hx, _⟩ := fnd_kept' hX hy
      exact ⟨hr, x, hx⟩
    · rintro ⟨hr, x, hx⟩
      obtain ⟨y, hy, _⟩ := kept_fnd hX ((h.memP d).2 ⟨hr, x, hx⟩) hx
      exact ⟨hr, y, hy⟩)
/-- nothing is missing, where all that can be reached is stored -/
theorem kept_missing {l X : List Bl} {R P M P' M' : List (List Int)} (h : CloD l R P M) (hX : X.map bp = (keptL l P).map bp) (h' : CloD X R P' M') (hall : ∀ d, Rch l R d → ∃ x, fnd l d = some x) : M' = [] := by
  rcases M' with _ | ⟨d, t⟩
  · rfl
  · exfalso
    obtain ⟨hr, hn⟩ := (h'.memM d).1 (by simp)
    have hr' := (kept_rch h hX).1 hr
    obtain ⟨x, hx⟩ := hall d hr'
    obtain ⟨y, hy, _⟩ := kept_fnd hX ((h.memP d).2 ⟨hr', x, hx⟩) hx
    rw [hn] at hy; cases hy
theorem bp_d {l l' : List Bl} (h : l.map bp = l'.map bp) : l.map (·.d) = l'.map (·.d) := by
  have := congrArg (List.map Prod.fst) h
  rwa [List.map_map, List.map_map] at this
theorem kept_again {l X : List Bl} {P : List (List Int)} (hX : X.map bp = (keptL l P).map bp) : keptL X P = X := by
  unfold keptL
  rw [List.filter_eq_self]
  intro x hx
  have h1 : x.d ∈ X.map (·.d) := List.mem_map_of_mem hx
  rw [bp_d hX] at h1
  obtain ⟨y, hy, e⟩ := List.mem_map.1 h1
  have := (List.mem_filter.1 hy).2
  rw [← e]; exact this
theorem kept_count {l X : List Bl} {R P M : List (List Int)} (h : CloD l R P M) (hs : srtD (l.map bp)) (hX : X.map bp = (keptL l P).map bp) : X.length = P.length := by
  have h1 : (keptL l P).map (·.d) = P := by
    refine srt_uniq ?_ h.srtP (fun d => ?_)
    · unfold srtD at hs ⊢
      rw [List.pairwise_map] at hs
      rw [List.pairwise_map, List.pairwise_map]
      exact hs.filter _
    · constructor
      · intro hd
        obtain ⟨x, hx, e⟩ := List.mem_map.1 hd
        have := (List.mem_filter.1 hx).2
        rw [← e]; simpa using this
      · intro hd
        obtain ⟨_, x, hx⟩ := (h.memP d).1 hd
        obtain ⟨h2, h3⟩ := fnd_some hx
        exact List.mem_map.2 ⟨x, List.mem_filter.2 ⟨h2, by rw [h3]; simpa using hd⟩, h3⟩
  have h2 := congrArg List.length hX
  have h3 := congrArg List.length h1
  rw [List.length_map] at h3
  rw [List.length_map, List.length_map] at h2
  omega
/-- what is kept of a store is one -/
theorem kept_srt {l X : List Bl} {P : List (List Int)} (hs : srtD (l.map bp)) (hX : X.map bp = (keptL l P).map bp) : srtD (X.map bp) := by
  rw [hX]
  unfold srtD keptL at *
  rw [List.pairwise_map] at hs ⊢
  exact hs.filter _
theorem kept_good {l X : List Bl} {P : List (List Int)} (h : GoodP (l.map bp)) (hX : X.map bp = (keptL l P).map bp) : GoodP (X.map bp) := by
  refine ⟨kept_srt h.srt hX, fun x hx => ?_, fun x hx => ?_⟩ <;>
  · rw [hX] at hx
    obtain ⟨y, hy, rfl⟩ := List.mem_map.1 hx
    first
      | exact h.aud _ (List.mem_map_of_mem (keptL_mem hy))
      | exact h.sz _ (List.mem_map_of_mem (keptL_mem hy))
end Go.Proofs.YtdjknefbaclleaaGreatDoor
