/-
  Stores, plain: what can be reached from some roots; two ways to find it.
-/
import Derived.Test.YtdjknefbaclleaaGreatDoorGv
import Derived.Test.YtdjknefbaclleaaGreatDoorGl
import Derived.Test.YtdjknefbaclleaaGreatDoorGt
import Derived.Test.YtdjknefbaclleaaGreatDoorGd
import Derived.Maps.AppendAt
import Derived.Test.YtdjknefbaclleaaGreatDoorGz
namespace Go.Proofs.YtdjknefbaclleaaGreatDoor
open Go.RowKit Go.Sort

def fnd (L : List Bl) (d : List Int) : Option Bl := L.find? (fun x => decide (x.d = d))
def lnkB (x : Bl) : List (List Int) := lnkD ⟨(uOf x.b).toArray⟩
theorem fnd_some {L : List Bl} {d : List Int} {x : Bl} (h : fnd L d = some x) : x ∈ L ∧ x.d = d := by
  have h1 := List.find?_some h
  exact ⟨List.mem_of_find?_eq_some h, of_decide_eq_true h1⟩
theorem fnd_none {L : List Bl} {d : List Int} (h : fnd L d = none) : ∀ x ∈ L, x.d ≠ d := fun x hx => by simpa using List.find?_eq_none.1 h x hx
theorem lnk_fold (ws : List ByteArray) : ∀ out : List (List Int), (∀ d ∈ out, d ≠ zed) → out.Nodup → (∀ d ∈ ws.foldl lnkS out, d ≠ zed) ∧ (ws.foldl lnkS out).Nodup := by
  induction ws with
  | nil => intro out h1 h2; exact ⟨h1, h2⟩
  | cons s ws ih =>
    intro out h1 h2
    rw [List.foldl_cons]
    unfold lnkS
    split
    · rename_i h
      refine ih _ (fun d hd => ?_) ?_
      · rcases List.mem_append.1 hd with hd | hd
        · exact h1 d hd
        · rw [List.mem_singleton.1 hd]; exact h.2.1
      · rw [List.nodup_append]
        exact ⟨h2, by simp, fun a ha b hb e => h.2.2 (by rw [← List.mem_singleton.1 hb, ← e]; exact ha)⟩
    · exact ih _ h1 h2
theorem lnkB_ne (x : Bl) : ∀ d ∈ lnkB x, d ≠ zed := (lnk_fold _ [] (fun d h => by cases h) List.nodup_nil).1
theorem lnkB_nodup (x : Bl) : (lnkB x).Nodup := (lnk_fold _ [] (fun d h => by cases h) List.nodup_nil).2
theorem flat_le120c : ∀ (L : List (List ByteArray)), (∀ l ∈ L, l.length ≤ 120) → L.flatten.length ≤ 120 * L.length
  | [], _ => by simp
  | l :: L, h => by
    rw [List.flatten_cons, List.length_append, List.length_cons]
    have h1 := h l (by simp)
    have h2 := flat_le120c L (fun m hm => h m (by simp [hm]))
    omega
theorem dec_bnd (S : ByteArray) : (decC S).2.length ≤ 1000000 ∧ (decC S).2.flatten.length ≤ 1000000 ∧ ∀ s ∈ (decC S).2.flatten, s.size ≤ 9223372036854775807 := by
  unfold decC
  split
  · exact ⟨by simp, by simp, fun s hs => by simp at hs⟩
  · cases hr : rdoc S with
    | none => exact ⟨by simp, by simp, fun s hs => by simp at hs⟩
    | some L =>
      simp only
      split
      · rename_i hc
        unfold chk at hc
        split at hc
        · cases hc
        · have hb := firstBad_all hc
          have hl : ∀ l ∈ L, l.length ≤ 120 ∧ l.any lng = false := fun l hl => by
            have := hb l hl
            unfold chkLine at this
            split at this
            · cases this
            · split at this
              · cases this
              · rename_i h; exact ⟨by omega, by simpa using fun e => h (.inr e)⟩
          have h1 := flat_le120c L (fun l hm => (hl l hm).1)
          show L.length ≤ 1000000 ∧ L.flatten.length ≤ 1000000 ∧ ∀ s ∈ L.flatten, s.size ≤ 9223372036854775807
          refine ⟨by omega, by omega, fun s hs => ?_⟩
          obtain ⟨l, hm, hs⟩ := List.mem_flatten.1 hs
          have h2 := not_lng (hl l hm).2 s hs
          omega
      · exact ⟨by simp, by simp, fun s hs => by simp at hs⟩
theorem lineL_ge (l : List ByteArray) : l.length ≤ (lineL l).length := by
  have hb : ∀ m : List ByteArray, m.length ≤ (body m).length := by
    intro m
    induction m with
    | nil => exact Nat.zero_le _
    | cons s m ih =>
      unfold body at ih ⊢
      rw [List.flatMap_cons, List.length_append, List.length_append, List.length_cons]
      have : ([32] : List UInt8).length = 1 := rfl
      omega
  have := hb l
  unfold lineL
  rw [List.length_append, List.length_dropLast]
  have : ([10] : List UInt8).length = 1 := rfl
  omega
theorem encL_ge : ∀ (L : List (List ByteArray)), L.flatten.length ≤ (encL L).length
  | [] => Nat.le_refl _
  | l :: L => by
    unfold encL
    rw [List.flatten_cons, List.length_append, List.flatMap_cons, List.length_append]
    have h1 := lineL_ge l
    have h2 := encL_ge L
    unfold encL at h2
    omega
theorem lnk_len (ws : List ByteArray) : ∀ out : List (List Int), (ws.foldl lnkS out).length ≤ out.length + ws.length := by
  induction ws with
  | nil => intro out; exact Nat.le_refl _
  | cons s ws ih =>
    intro out
    rw [List.foldl_cons, List.length_cons]
    have h := ih (lnkS out s)
    have : (lnkS out s).length ≤ out.length + 1 := by
      unfold lnkS; split
      · rw [List.length_append]; exact Nat.le_refl _
      · omega
    omega
theorem lnkB_len (x : Bl) : (lnkB x).length ≤ x.b.length := by
  unfold lnkB lnkD
  obtain ⟨S, hS⟩ : ∃ S : ByteArray, ⟨(uOf x.b).toArray⟩ = S := ⟨_, rfl⟩
  have hz : S.size = x.b.length := by rw [← hS, Lib.size_eq]; simp [uOf]
  rw [hS]
  have h1 : (lnk (decC S).2.flatten).length ≤ (decC S).2.flatten.length := by have := lnk_len (decC S).2.flatten []; simpa [lnk] using this
  have h2 : (decC S).2.flatten.length ≤ S.size := by
    unfold decC
    split
    · simp
    · cases hr : rdoc S with
      | none => simp
      | some L =>
        simp only
        split
        · have := encL_ge L; have := rdoc_len hr; show L.flatten.length ≤ _; omega
        · simp
  omega
/-- can be reached -/
inductive Rch (L : List Bl) (R : List (List Int)) : List Int → Prop
  | root {d : List Int} (h : d ∈ R) (hz : d ≠ zed) : Rch L R d
  | link {d e : List Int} {x : Bl} (h : Rch L R d) (hx : fnd L d = some x) (he : e ∈ lnkB x) : Rch L R e
theorem Rch.ne {L : List Bl} {R : List (List Int)} {d : List Int} (h : Rch L R d) : d ≠ zed := by
  cases h with
  | root h hz => exact hz
  | link h hx he => exact lnkB_ne _ _ he
/-- the two lists that Closure answers -/
structure CloD (L : List Bl) (R P M : List (List Int)) : Prop where
  srtP : srtD (P.map pr0)
  srtM : srtD (M.map pr0)
  memP : ∀ d, d ∈ P ↔ Rch L R d ∧ ∃ x, fnd L d = some x
  memM : ∀ d, d ∈ M ↔ Rch L R d ∧ fnd L d = none
theorem pr0_inj {a b : List (List Int)} (h : a.map pr0 = b.map pr0) : a = b := by
  have := congrArg (List.map Prod.fst) h
  simpa [pr0, List.map_map, Function.comp_def] using this
theorem srt_uniq {a b : List (List Int)} (ha : srtD (a.map pr0)) (hb : srtD (b.map pr0)) (h : ∀ d, d ∈ a ↔ d ∈ b) : a = b :=
  pr0_inj (srtD_ext ha hb (fun z => by
    rw [List.mem_map, List.mem_map]
    constructor
    · rintro ⟨d, hd, rfl⟩; exact ⟨d, (h d).1 hd, rfl⟩
    · rintro ⟨d, hd, rfl⟩; exact ⟨d, (h d).2 hd, rfl⟩))
theorem CloD.det {L : List Bl} {R P M P' M' : List (List Int)} (h : CloD L R P M) (h' : CloD L R P' M') : P = P' ∧ M = M' :=
  ⟨srt_uniq h.srtP h'.srtP (fun d => (h.memP d).trans (h'.memP d).symm), srt_uniq h.srtM h'.srtM (fun d => (h.memM d).trans (h'.memM d).symm)⟩
/-- what is left to be met, at most -/
def pot (L : List Bl) (P : List (List Int)) : Nat := (L.map (fun x => if x.d ∈ P then 0 else (lnkB x).length)).sum
theorem sum_le {α : Type} (f g : α → Nat) : ∀ l : List α, (∀ x ∈ l, f x ≤ g x) → (l.map f).sum ≤ (l.map g).sum
  | [], _ => Nat.le_refl _
  | x :: l, h => by
    rw [List.map_cons, List.map_cons, List.sum_cons, List.sum_cons]
    have := h x (by simp); have := sum_le f g l (fun y hy => h y (by simp [hy])); omega
theorem sum_lt {α : Type} (f g : α → Nat) (m : Nat) : ∀ l : List α, (∀ x ∈ l, f x ≤ g x) → ∀ x ∈ l, f x + m ≤ g x → (l.map f).sum + m ≤ (l.map g).sum
  | [], _, x, hx, _ => by cases hx
  | y :: l, h, x, hx, hm => by
    rw [List.map_cons, List.map_cons, List.sum_cons, List.sum_cons]
    rcases List.mem_cons.1 hx with rfl | hx
    · have := sum_le f g l (fun y hy => h y (by simp [hy])); omega
    · have := h y (by simp); have := sum_lt f g m l (fun y hy => h y (by simp [hy])) x hx hm; omega
theorem pot_add {L : List Bl} {P : List (List Int)} {d : List Int} {x : Bl} (hx : fnd L d = some x) (hd : d ∉ P) : pot L (P ++ [d]) + (lnkB x).length ≤ pot L P := by
  obtain ⟨h1, h2⟩ := fnd_some hx
  unfold pot
  refine sum_lt _ _ _ L (fun y _ => ?_) x h1 ?_
  · by_cases hy : y.d ∈ P
    · rw [if_pos (List.mem_append.2 (.inl hy)), if_pos hy]; omega
    · rw [if_neg hy]; split <;> omega
  · rw [if_pos (by rw [h2]; simp), if_neg (by rw [h2]; exact hd)]; omega
theorem pot_more {L : List Bl} {P : List (List Int)} (d : List Int) : pot L (P ++ [d]) ≤ pot L P := sum_le _ _ L (fun y _ => by
  by_cases hy : y.d ∈ P
  · rw [if_pos (List.mem_append.2 (.inl hy)), if_pos hy]; omega
  · rw [if_neg hy]; split <;> omega)
/-- the search with a list of those that wait -/
structure CloI (L : List Bl) (R W P M : List (List Int)) : Prop where
  np : P.Nodup
  nm : M.Nodup
  pres : ∀ d ∈ P, Rch L R d ∧ ∃ x, fnd L d = some x
  miss : ∀ d ∈ M, Rch L R d ∧ fnd L d = none
  wait : ∀ d ∈ W, d = zed ∨ Rch L R d
  rts : ∀ d ∈ R, d = zed ∨ d ∈ P ∨ d ∈ M ∨ d ∈ W
  lks : ∀ d ∈ P, ∀ x, fnd L d = some x → ∀ e ∈ lnkB x, e ∈ P ∨ e ∈ M ∨ e ∈ W
theorem CloI.start (L : List Bl) (R : List (List Int)) : CloI L R R [] [] :=
  ⟨List.nodup_nil, List.nodup_nil, fun d h => (by cases h), fun d h => (by cases h), fun d h => by
    by_cases hz : d = zed
    · exact .inl hz
    · exact .inr (.root h hz), fun d h => .inr (.inr (.inr h)), fun d h => (by cases h)⟩
theorem CloI.skip {L : List Bl} {R W P M : List (List Int)} {d : List Int} (h : CloI L R (W ++ [d]) P M) (hs : d = zed ∨ d ∈ P ∨ d ∈ M) : CloI L R W P M :=
  ⟨h.np, h.nm, h.pres, h.miss, fun e he => h.wait e (List.mem_append.2 (.inl he)), fun e he => by
    rcases h.rts e he with h1 | h1 | h1 | h1
    · exact .inl h1
    · exact .inr (.inl h1)
    · exact .inr (.inr (.inl h1))
    · rcases List.mem_append.1 h1 with h1 | h1
      · exact .inr (.inr (.inr h1))
      · rw [List.mem_singleton.1 h1]
        rcases hs with h2 | h2 | h2
        · exact .inl h2
        · exact .inr (.inl h2)
        · exact .inr (.inr (.inl h2)), fun e he x hx g hg => by
    rcases h.lks e he x hx g hg with h1 | h1 | h1
    · exact .inl h1
    · exact .inr (.inl h1)
    · rcases List.mem_append.1 h1 with h1 | h1
      · exact .inr (.inr h1)
      · have e1 := List.mem_singleton.1 h1
        rcases hs with h2 | h2 | h2
        · exact absurd (e1.trans h2) (lnkB_ne x g hg)
        · rw [e1]; exact .inl h2
        · rw [e1]; exact .inr (.inl h2)⟩
theorem nodup_snoc {l : List (List Int)} {d : List Int} (h : l.Nodup) (hd : d ∉ l) : (l ++ [d]).Nodup := by
  rw [List.nodup_append]
  exact ⟨h, by simp, fun a ha b hb e => hd (by rw [← List.mem_singleton.1 hb, ← e]; exact ha)⟩
theorem CloI.lost {L : List Bl} {R W P M : List (List Int)} {d : List Int} (h : CloI L R (W ++ [d]) P M) (hz : d ≠ zed) (hp : d ∉ P) (hm : d ∉ M) (hf : fnd L d = none) : CloI L R W P (M ++ [d]) := by
  have hr : Rch L R d := (h.wait d (by simp)).resolve_left hz
  refine ⟨h.np, nodup_snoc h.nm hm, h.pres, fun e he => ?_, fun e he => h.wait e (List.mem_append.2 (.inl he)), fun e he => ?_, fun e he x hx g hg => ?_⟩
  · rcases List.mem_append.1 he with he | he
    · exact h.miss e he
    · rw [List.mem_singleton.1 he]; exact ⟨hr, hf⟩
  · rcases h.rts e he with h1 | h1 | h1 | h1
    · exact .inl h1
    · exact .inr (.inl h1)
    · exact .inr (.inr (.inl (List.mem_append.2 (.inl h1))))
    · rcases List.mem_append.1 h1 with h1 | h1
      · exact .inr (.inr (.inr h1))
      · exact .inr (.inr (.inl (List.mem_append.2 (.inr h1))))
  · rcases h.lks e he x hx g hg with h1 | h1 | h1
    · exact .inl h1
    · exact .inr (.inl (List.mem_append.2 (.inl h1)))
    · rcases List.mem_append.1 h1 with h1 | h1
      · exact .inr (.inr h1)
      · exact .inr (.inl (List.mem_append.2 (.inr h1)))
theorem CloI.found {L : List Bl} {R W P M : List (List Int)} {d : List Int} {x : Bl} (h : CloI L R (W ++ [d]) P M) (hz : d ≠ zed) (hp : d ∉ P) (hf : fnd L d = some x) : CloI L R (W ++ lnkB x) (P ++ [d]) M := by
  have hr : Rch L R d := (h.wait d (by simp)).resolve_left hz
  refine ⟨nodup_snoc h.np hp, h.nm, fun e he => ?_, h.miss, fun e he => ?_, fun e he => ?_, fun e he y hy g hg => ?_⟩
  · rcases List.mem_append.1 he with he | he
    · exact h.pres e he
    · rw [List.mem_singleton.1 he]; exact ⟨hr, x, hf⟩
  · rcases List.mem_append.1 he with he | he
    · exact h.wait e (List.mem_append.2 (.inl he))
    · exact .inr (.link hr hf he)
  · rcases h.rts e he with h1 | h1 | h1 | h1
    · exact .inl h1
    · exact .inr (.inl (List.mem_append.2 (.inl h1)))
    · exact .inr (.inr (.inl h1))
    · rcases List.mem_append.1 h1 with h1 | h1
      · exact .inr (.inr (.inr (List.mem_append.2 (.inl h1))))
      · exact .inr (.inl (List.mem_append.2 (.inr h1)))
  · rcases List.mem_append.1 he with he | he
    · rcases h.lks e he y hy g hg with h1 | h1 | h1
      · exact .inl (List.mem_append.2 (.inl h1))
      · exact .inr (.inl h1)
      · rcases List.mem_append.1 h1 with h1 | h1
        · exact .inr (.inr (List.mem_append.2 (.inl h1)))
        · exact .inl (List.mem_append.2 (.inr h1))
    · rw [List.mem_singleton.1 he, hf] at hy
      injection hy with hy; subst hy
      exact .inr (.inr (List.mem_append.2 (.inr hg)))
theorem CloI.end_ {L : List Bl} {R P M : List (List Int)} (h : CloI L R [] P M) {P' M' : List (List Int)} (hp : ∀ d, d ∈ P' ↔ d ∈ P) (hm : ∀ d, d ∈ M' ↔ d ∈ M) (sp : srtD (P'.map pr0)) (sm : srtD (M'.map pr0)) : CloD L R P' M' := by
  have all : ∀ d, Rch L R d → d ∈ P ∨ d ∈ M := by
    intro d hd
    induction hd with
    | root hr hz =>
      rcases h.rts _ hr with h1 | h1 | h1 | h1
      · exact absurd h1 hz
      · exact .inl h1
      · exact .inr h1
      · cases h1
    | link hd hx he ih =>
      rcases ih with h1 | h1
      · rcases h.lks _ h1 _ hx _ he with h2 | h2 | h2
        · exact .inl h2
        · exact .inr h2
        · cases h2
      · rw [(h.miss _ h1).2] at hx; cases hx
  refine ⟨sp, sm, fun d => ?_, fun d => ?_⟩
  · rw [hp]
    constructor
    · intro hd; exact h.pres d hd
    · rintro ⟨h1, x, hx⟩
      rcases all d h1 with h2 | h2
      · exact h2
      · rw [(h.miss d h2).2] at hx; cases hx
  · rw [hm]
    constructor
    · intro hd; exact h.miss d hd
    · rintro ⟨h1, hx⟩
      rcases all d h1 with h2 | h2
      · obtain ⟨_, y, hy⟩ := h.pres d h2; rw [hy] at hx; cases hx
      · exact h2
theorem add_srt {D T : List (List Int)} {d : List Int} (h : srtD (D.map pr0)) (hT : addL D d T) : srtD (T.map pr0) ∧ ∀ e, e ∈ T ↔ e ∈ D ∨ e = d := by
  rcases hT with ⟨hin, rfl⟩ | ⟨hno, k, h1, h2, rfl⟩
  · refine ⟨h, fun e => ⟨.inl, ?_⟩⟩
    rintro (h | rfl)
    · exact h
    · exact hin
  · constructor
    · have := srt_ins (x := pr0 d) (k := k) h (fun y hy => by
        rw [← List.map_take] at hy
        obtain ⟨z, hz, rfl⟩ := List.mem_map.1 hy; exact h1 z hz) (fun y hy => by
        rw [List.getElem?_map] at hy
        cases hz : D[k]? with
        | none => rw [hz] at hy; cases hy
        | some z => rw [hz] at hy; injection hy with hy; rw [← hy]; exact h2 z hz) (fun y hy => by
        obtain ⟨z, hz, rfl⟩ := List.mem_map.1 hy
        intro e; exact hno (by rw [← show z = d from e]; exact hz))
      rw [List.map_append, List.map_cons, List.map_take, List.map_drop]; exact this
    · intro e
      have hz : e ∈ D ↔ e ∈ D.take k ∨ e ∈ D.drop k := by
        conv => lhs; rw [← List.take_append_drop k D]
        exact List.mem_append
      rw [hz, List.mem_append, List.mem_cons]
      constructor
      · rintro (h | h | h)
        · exact .inl (.inl h)
        · exact .inr h
        · exact .inl (.inr h)
      · rintro ((h | h) | h)
        · exact .inl h
        · exact .inr (.inr h)
        · exact .inr (.inl h)
/-- the ascending list of those of B that meet p -/
def Som (D B : List (List Int)) (p : List Int → Prop) : Prop := srtD (D.map pr0) ∧ ∀ d, d ∈ D ↔ d ∈ B ∧ p d
theorem Som.nil (p : List Int → Prop) : Som [] [] p := ⟨List.Pairwise.nil, fun d => by simp⟩
theorem Som.yes {D B T : List (List Int)} {p : List Int → Prop} {d : List Int} (h : Som D B p) (hT : addL D d T) (hd : p d) : Som T (B ++ [d]) p := by
  obtain ⟨h1, h2⟩ := add_srt h.1 hT
  refine ⟨h1, fun e => ?_⟩
  rw [h2, h.2, List.mem_append, List.mem_singleton]
  constructor
  · rintro (⟨a, b⟩ | rfl)
    · exact ⟨.inl a, b⟩
    · exact ⟨.inr rfl, hd⟩
  · rintro ⟨a | rfl, b⟩
    · exact .inl ⟨a, b⟩
    · exact .inr rfl
theorem Som.no {D B : List (List Int)} {p : List Int → Prop} {d : List Int} (h : Som D B p) (hd : ¬ p d) : Som D (B ++ [d]) p := by
  refine ⟨h.1, fun e => ?_⟩
  rw [h.2, List.mem_append, List.mem_singleton]
  constructor
  · rintro ⟨a, b⟩; exact ⟨.inl a, b⟩
  · rintro ⟨a | rfl, b⟩
    · exact ⟨a, b⟩
    · exact absurd b hd
/-- the search along a growing list -/
structure CloQ (L : List Bl) (R A P M : List (List Int)) (i : Nat) : Prop where
  nd : A.Nodup
  rch : ∀ d ∈ A, Rch L R d
  rts : ∀ d ∈ R, d = zed ∨ d ∈ A
  lks : ∀ d ∈ A.take i, ∀ x, fnd L d = some x → ∀ e ∈ lnkB x, e ∈ A
  pres : Som P (A.take i) (fun d => ∃ x, fnd L d = some x)
  miss : Som M (A.take i) (fun d => fnd L d = none)
theorem take_snocD {A : List (List Int)} {i : Nat} {d : List Int} (h : A[i]? = some d) : A.take (i + 1) = A.take i ++ [d] := by rw [List.take_add_one, h]; rfl
theorem CloQ.lost {L : List Bl} {R A P M T : List (List Int)} {i : Nat} {d : List Int} (h : CloQ L R A P M i) (hd : A[i]? = some d) (hf : fnd L d = none) (hT : addL M d T) : CloQ L R A P T (i + 1) := by
  refine ⟨h.nd, h.rch, h.rts, fun e he x hx g hg => ?_, ?_, ?_⟩
  · rw [take_snocD hd] at he
    rcases List.mem_append.1 he with he | he
    · exact h.lks e he x hx g hg
    · rw [List.mem_singleton.1 he, hf] at hx; cases hx
  · rw [take_snocD hd]; exact h.pres.no (by rintro ⟨x, hx⟩; rw [hf] at hx; cases hx)
  · rw [take_snocD hd]; exact h.miss.yes hT hf
theorem CloQ.found {L : List Bl} {R A B P M T : List (List Int)} {i : Nat} {d : List Int} {x : Bl} (h : CloQ L R A P M i) (hd : A[i]? = some d) (hf : fnd L d = some x) (hT : addL P d T) (hn : (A ++ B).Nodup) (hB : ∀ e ∈ B, e ∈ lnkB x) (hl : ∀ e ∈ lnkB x, e ∈ A ++ B) : CloQ L R (A ++ B) T M (i + 1) := by
  have hi : i < A.length := (List.getElem?_eq_some_iff.1 hd).1
  have ht : (A ++ B).take (i + 1) = A.take i ++ [d] := by rw [List.take_append_of_le_length (by omega), take_snocD hd]
  refine ⟨hn, fun e he => ?_, fun e he => ?_, fun e he y hy g hg => ?_, ?_, ?_⟩
  · rcases List.mem_append.1 he with he | he
    · exact h.rch e he
    · exact .link (h.rch d (List.mem_of_getElem? hd)) hf (hB e he)
  · rcases h.rts e he with h1 | h1
    · exact .inl h1
    · exact .inr (List.mem_append.2 (.inl h1))
  · rw [ht] at he
    rcases List.mem_append.1 he with he | he
    · exact List.mem_append.2 (.inl (h.lks e he y hy g hg))
    · rw [List.mem_singleton.1 he, hf] at hy
      injection hy with hy; subst hy
      exact hl g hg
  · rw [ht]; exact h.pres.yes hT ⟨x, hf⟩
  · rw [ht]; exact h.miss.no (by rw [hf]; simp)
theorem CloQ.end_ {L : List Bl} {R A P M : List (List Int)} {i : Nat} (h : CloQ L R A P M i) (hi : A.length ≤ i) : CloD L R P M := by
  have ht : A.take i = A := List.take_of_length_le hi
  have all : ∀ d, Rch L R d → d ∈ A := by
    intro d hd
    induction hd with
    | root hr hz => exact (h.rts _ hr).resolve_left hz
    | link hd hx he ih => exact h.lks _ (by rw [ht]; exact ih) _ hx _ he
  have e : ∀ d, d ∈ A ↔ Rch L R d := fun d => ⟨h.rch d, all d⟩
  refine ⟨h.pres.1, h.miss.1, fun d => ?_, fun d => ?_⟩
  · rw [h.pres.2, ht, e]
  · rw [h.miss.2, ht, e]
end Go.Proofs.YtdjknefbaclleaaGreatDoor

namespace Go.Proofs.YtdjknefbaclleaaGreatDoor
open Go.RowKit

/-- a list that is read lies elsewhere than a list that grows -/
def ApD (v : Value) (sp : Option Addr) : Prop := ∀ g b off, v.ownBlock = some g → sp = some ⟨b, off, none⟩ → b ≠ g
theorem apD_nil (v : Value) : ApD v none := fun g b off _ h => by cases h
theorem digs_grown {w w' : World} {v : Value} {sp : Option Addr} {n cap : Nat} {l : List (List Int)} (h : DigsIn w w.heap.size sp n cap l) (hg : w.grownBy w' v.ownBlock) (ha : ApD v sp) : DigsIn w' w'.heap.size sp n cap l :=
  ⟨h.len, h.digs, fun hn => by
    obtain ⟨b, off, e, hlt, hc, hr⟩ := h.cells hn
    refine ⟨b, off, e, Nat.lt_of_lt_of_le hlt hg.size, hc, fun i hi j v' hv => ?_⟩
    refine (World.cell?_of_block (a := ⟨b, off + i * 32 + j, none⟩) (hg.block b hlt (fun e2 => ?_))).trans (hr i hi j v' hv)
    exact ha b b off e2.symm e rfl⟩
theorem digs_lt {w : World} {B : Nat} {sp : Option Addr} {n cap : Nat} {l : List (List Int)} (h : DigsIn w B sp n cap l) (hn : 0 < n) {b off : Nat} (e : sp = some ⟨b, off, none⟩) : b < B := by
  obtain ⟨b', off', e', hlt, _⟩ := h.cells hn
  rw [e] at e'; injection e' with e'; injection e' with e1 _ _; rw [e1]; exact hlt
/-- where a list lies that is read, also when it is empty -/
def LowD (w : World) (sp : Option Addr) : Prop := ∀ b off, sp = some ⟨b, off, none⟩ → b < w.heap.size
theorem lowD_nil (w : World) : LowD w none := fun b off h => by cases h
theorem LowD.mono {w w' : World} {sp : Option Addr} (h : LowD w sp) (hs : w.heap.size ≤ w'.heap.size) : LowD w' sp := fun b off e => Nat.lt_of_lt_of_le (h b off e) hs
theorem ApD.grown {v v' : Value} {sp : Option Addr} {w : World} (h : ApD v sp) (hl : LowD w sp) (hv : v'.ownBlock = v.ownBlock ∨ v'.ownBlock = some w.heap.size) : ApD v' sp := fun g b off hg he => by
  rcases hv with hv | hv
  · rw [hv] at hg; exact h g b off hg he
  · rw [hv] at hg; injection hg with hg; rw [← hg]; have := hl b off he; omega
theorem ApD.fresh {v : Value} {sp : Option Addr} {w : World} {base n cap : Nat} {l : List (List Int)} (ho : OwnDg w base v l) (hf : ∀ b off, sp = some ⟨b, off, none⟩ → w.heap.size ≤ b) : ApD v sp := fun g b off hg he => by
  have h1 := (ho.1.lt g hg).2
  have := hf b off he; omega
theorem own_low {w : World} {base n cap : Nat} {sp : Option Addr} {l : List (List Int)} (h : OwnDg w base (.slice sp n cap) l) : LowD w sp := fun b off e => by
  subst e
  obtain ⟨_, ⟨e, _⟩ | ⟨g, c, u, e, hb, hg, _⟩⟩ := h.1
  · cases e
  · injection e with e _ _; injection e with e; injection e with e1 _ _; rw [e1]; exact (Array.getElem?_eq_some_iff.1 hg).1
/-- append(own, x), and where it lies -/
theorem wpList_append_dg_at {w : World} {ops : Array Oper} {rest : List Oper} {o : Oper} {a : Act} {Q : Exit → Act → World → Prop} (hgd : o.guard = none) (s x : Operand)
    (ho : o.op = .call { callee := .builtin .append, args := #[s, x], argTypes := #[25, 25] }) (base : Nat) (v : Value) (l : List (List Int)) (n : Nat) (hn : n = l.length) (hs : a.eval s = v) (hown : OwnDg w base v l)
    (g : Nat) (y : List Int) (hx : a.eval x = .slice (some ⟨g, 0, none⟩) 1 1) (hy : w.rangeAt g 0 (y.map (Value.int .u8))) (hok : D32 y) (hlen : n ≤ 1000000000) (hbase : base ≤ w.heap.size)
    (h : ∀ sp cap w', Hid (OwnDg w' base (.slice sp (n + 1) cap) (l ++ [y])) → Hid (Below base w w') → Hid (w.grownBy w' v.ownBlock) → Hid ((Value.slice sp (n + 1) cap).ownBlock = v.ownBlock ∨ (Value.slice sp (n + 1) cap).ownBlock = some w.heap.size) → wpList Tryz.prog ops Q rest (a.put o.dst (.slice sp (n + 1) cap)) w') : wpList Tryz.prog ops Q (o :: rest) a w := by
  subst hn
  obtain ⟨i0, hi0, hz0, hz1, hz2⟩ := info_parts infoD3
  refine wpList_append_own_at w hgd s x _ ho base _ i0 _ 32 32 Tryz.underlying25 hi0 hz0 hz1 hz2 rfl (by decide) v l.length _ hs hown.1 ⟨g, 0, none⟩ 1 1 (y.map (Value.int .u8)) hx (by rw [List.length_map, hok.1]) ?_ (one_map _ _) (by unfold maxLen; omega) (by omega) hbase ?_
  · intro j u hj
    rw [Addr.add_mid]
    exact hy j u hj
  · intro v' w' h1 h2 _ h4
    obtain ⟨sp, cap, rfl⟩ := own_shapeG h1
    refine h sp cap w' ⟨by rw [rowsDg_snoc, List.length_append]; exact h1, fun z hz => ?_⟩ ((Below.refl base w).grown h2 hbase (own_baseG hown.1)) h2 h4
    rcases List.mem_append.1 hz with hz | hz
    · exact hown.2 z hz
    · rw [List.mem_singleton.1 hz]; exact hok
set_option maxRecDepth 100000 in
/-- append(own, list...), and where it lies -/
theorem wpList_append_dgs_at {w : World} {ops : Array Oper} {rest : List Oper} {o : Oper} {a : Act} {Q : Exit → Act → World → Prop} (hgd : o.guard = none) (s x : Operand)
    (ho : o.op = .call { callee := .builtin .append, args := #[s, x], argTypes := #[25, 25] }) (base : Nat) (v : Value) (l : List (List Int)) (n : Nat) (hn : n = l.length) (hs : a.eval s = v) (hown : OwnDg w base v l)
    (sp2 : Option Addr) (m cap2 B : Nat) (l2 : List (List Int)) (hx : a.eval x = .slice sp2 m cap2) (hsrc : DigsIn w B sp2 m cap2 l2) (hnil : sp2 = none → cap2 = 0) (hlen : n + m ≤ 100000000) (hbase : base ≤ w.heap.size)
    (h : ∀ sp cap w', Hid (OwnDg w' base (.slice sp (n + m) cap) (l ++ l2)) → Hid (Below base w w') → Hid (w.grownBy w' v.ownBlock) → Hid ((Value.slice sp (n + m) cap).ownBlock = v.ownBlock ∨ (Value.slice sp (n + m) cap).ownBlock = some w.heap.size) → wpList Tryz.prog ops Q rest (a.put o.dst (.slice sp (n + m) cap)) w') : wpList Tryz.prog ops Q (o :: rest) a w := by
  subst hn
  obtain ⟨i0, hi0, hz0, hz1, hz2⟩ := info_parts infoD3
  have hl2 := hsrc.len
  cases sp2 with
  | none =>
    have hm : m = 0 := by
      by_cases h0 : 0 < m
      · obtain ⟨_, _, e, _⟩ := hsrc.cells h0; cases e
      · omega
    subst hm
    have e2 : l2 = [] := List.eq_nil_of_length_eq_zero hl2
    subst e2
    rw [hnil rfl] at hx
    obtain ⟨sp, cap, rfl⟩ := own_shapeG hown.1
    refine wpList_append_own_none hgd s x _ ho base _ i0 32 Tryz.underlying25 hi0 _ l.length _ hs hown.1 hx ?_
    exact h sp cap w (by show OwnDg _ _ _ _; simpa using hown) (Below.refl _ _) (World.grownBy.refl _ _) (.inl rfl)
  | some ad =>
    refine wpList_append_own_at w hgd s x _ ho base _ i0 _ 32 32 Tryz.underlying25 hi0 hz0 hz1 hz2 rfl (by decide) v l.length _ hs hown.1 ad m cap2 (rowsDg l2) hx (by rw [← hl2]; exact flat_lenG (fun d : List Int => d.map (Value.int .u8)) 32 l2 (fun z hz => by rw [List.length_map, (hsrc.d32 z hz).1])) ?_ (fun u hu => by
      obtain ⟨y, _, hy⟩ := List.mem_flatMap.1 hu
      exact one_map _ _ u hy) (by unfold maxLen; omega) (by omega) hbase ?_
    · intro j u hj
      obtain ⟨y, h1, h2⟩ := flat_getG (fun d : List Int => d.map (Value.int .u8)) 32 (by decide) l2 (fun z hz => by rw [List.length_map, (hsrc.d32 z hz).1]) j u hj
      have hlt := (List.getElem?_eq_some_iff.1 h1).1
      obtain ⟨b, off, e, _, _, hr⟩ := hsrc.at (by omega)
      injection e with e; subst e
      have := hr _ y h1 _ u h2
      rw [Addr.add_mid]
      rw [show off + j = off + j / 32 * 32 + j % 32 by omega]
      exact this
    · intro v' w' h1 h2 _ h4
      obtain ⟨sp, cap, rfl⟩ := own_shapeG h1
      refine h sp cap w' ⟨by rw [rowsDg_append, List.length_append, hl2]; exact h1, fun z hz => ?_⟩ ((Below.refl base w).grown h2 hbase (own_baseG hown.1)) h2 h4
      rcases List.mem_append.1 hz with hz | hz
      · exact hown.2 z hz
      · exact hsrc.d32 z hz
end Go.Proofs.YtdjknefbaclleaaGreatDoor

namespace Go.Proofs.YtdjknefbaclleaaGreatDoor
open Go.RowKit Go.Sort

theorem wpList_load_gD {P : Program} {ops : Array Oper} {rest : List Oper} {o : Oper} {a : Act} {w : World} {Q : Exit → Act → World → Prop} (hw : Region.wanted o (yielded ops a.tmps) = true) (ty : TypeId) (x : Operand) (ho : o.op = .load ty x)
    (b k : Nat) (hx : a.eval x = .pointer (some ⟨b, k, none⟩)) (cs : List Value) (d : TypeDesc) (hc : w.rangeAt b k cs)
    (hu : P.underlying ty = some d) (hd : d.isRow = true) (hi : (P.info? ty).map (·.size) = some cs.length)
    (h : wpList P ops Q rest (a.put o.dst (.agg cs.toArray)) w) : wpList P ops Q (o :: rest) a w :=
  wpList_step fun K hK => by rw [if_pos hw]; exact wp_load_mid ty x ho b k hx cs d hc hu hd hi (hK _ _ h)
theorem zed_v : Array.replicate 32 (Value.int .u8 0) = (zed.map (Value.int .u8)).toArray := by rfl
theorem d32_zedC : D32 zed := ⟨rfl, fun x hx => by rw [List.eq_of_mem_replicate hx]; omega⟩
/-- the roots, each once -/
structure RtsI (R A : List (List Int)) (i : Nat) : Prop where
  nd : A.Nodup
  frm : ∀ d ∈ A, d ∈ R ∧ d ≠ zed
  all : ∀ d ∈ R.take i, d = zed ∨ d ∈ A
theorem RtsI.nil (R : List (List Int)) : RtsI R [] 0 := ⟨List.nodup_nil, fun d h => (by cases h), fun d h => (by simp at h)⟩
theorem RtsI.skip {R A : List (List Int)} {i : Nat} {d : List Int} (h : RtsI R A i) (hd : R[i]? = some d) (hs : d = zed ∨ d ∈ A) : RtsI R A (i + 1) :=
  ⟨h.nd, h.frm, fun e he => by
    rw [take_snocD hd] at he
    rcases List.mem_append.1 he with he | he
    · exact h.all e he
    · rw [List.mem_singleton.1 he]; exact hs⟩
theorem RtsI.add {R A : List (List Int)} {i : Nat} {d : List Int} (h : RtsI R A i) (hd : R[i]? = some d) (hz : d ≠ zed) (hn : d ∉ A) : RtsI R (A ++ [d]) (i + 1) :=
  ⟨nodup_snoc h.nd hn, fun e he => by
    rcases List.mem_append.1 he with he | he
    · exact h.frm e he
    · rw [List.mem_singleton.1 he]; exact ⟨List.mem_of_getElem? hd, hz⟩, fun e he => by
    rw [take_snocD hd] at he
    rcases List.mem_append.1 he with he | he
    · rcases h.all e he with h1 | h1
      · exact .inl h1
      · exact .inr (List.mem_append.2 (.inl h1))
    · rw [List.mem_singleton.1 he]; exact .inr (by simp)⟩
theorem RtsI.q {L : List Bl} {R A : List (List Int)} {i : Nat} (h : RtsI R A i) (hi : R.length ≤ i) : CloQ L R A [] [] 0 :=
  ⟨h.nd, fun d hd => .root (h.frm d hd).1 (h.frm d hd).2, fun d hd => h.all d (by rw [List.take_of_length_le hi]; exact hd), fun d hd => (by simp at hd), by rw [List.take_zero]; exact Som.nil _, by rw [List.take_zero]; exact Som.nil _⟩
/-- the links that are new, each once -/
structure LksI (A l B : List (List Int)) (j : Nat) : Prop where
  nd : (A ++ B).Nodup
  frm : ∀ e ∈ B, e ∈ l
  all : ∀ e ∈ l.take j, e ∈ A ++ B
  few : B.length ≤ j
theorem LksI.nil {A l : List (List Int)} (h : A.Nodup) : LksI A l [] 0 := ⟨by rw [List.append_nil]; exact h, fun e h => (by cases h), fun e h => (by simp at h), Nat.le_refl _⟩
theorem LksI.skip {A l B : List (List Int)} {j : Nat} {e : List Int} (h : LksI A l B j) (he : l[j]? = some e) (hi : e ∈ A ++ B) : LksI A l B (j + 1) :=
  ⟨h.nd, h.frm, fun g hg => by
    rw [take_snocD he] at hg
    rcases List.mem_append.1 hg with hg | hg
    · exact h.all g hg
    · rw [List.mem_singleton.1 hg]; exact hi, Nat.le_succ_of_le h.few⟩
theorem LksI.add {A l B : List (List Int)} {j : Nat} {e : List Int} (h : LksI A l B j) (he : l[j]? = some e) (hi : e ∉ A ++ B) : LksI A l (B ++ [e]) (j + 1) :=
  ⟨by rw [← List.append_assoc]; exact nodup_snoc h.nd hi, fun g hg => by
    rcases List.mem_append.1 hg with hg | hg
    · exact h.frm g hg
    · rw [List.mem_singleton.1 hg]; exact List.mem_of_getElem? he, fun g hg => by
    rw [← List.append_assoc]
    rw [take_snocD he] at hg
    rcases List.mem_append.1 hg with hg | hg
    · exact List.mem_append.2 (.inl (h.all g hg))
    · exact List.mem_append.2 (.inr hg), by rw [List.length_append]; have := h.few; simp; omega⟩
theorem srt_nodup {D : List (List Int)} (h : srtD (D.map pr0)) : D.Nodup := by
  have h1 : D.Pairwise (fun a b => dls a b = true) := List.pairwise_map.1 h
  exact h1.imp (fun h e => by rw [e, dls_irrefl] at h; cases h)
theorem few_of : ∀ (D B : List (List Int)), D.Nodup → (∀ d ∈ D, d ∈ B) → D.length ≤ B.length
  | [], _, _, _ => Nat.zero_le _
  | d :: D, B, h, hs => by
    obtain ⟨h1, h2⟩ := List.nodup_cons.1 h
    have hd := hs d (by simp)
    have := few_of D (B.erase d) h2 (fun e he => (List.mem_erase_of_ne (fun e2 => h1 (by rw [← e2]; exact he))).2 (hs e (by simp [he])))
    rw [List.length_erase_of_mem hd] at this
    have : 0 < B.length := List.length_pos_of_mem hd
    rw [List.length_cons]; omega
theorem som_few {D B : List (List Int)} {p : List Int → Prop} (h : Som D B p) : D.length ≤ B.length := few_of D B (srt_nodup h.1) (fun d hd => ((h.2 d).1 hd).1)
theorem addL_pos {l T : List (List Int)} {d : List Int} (h : addL l d T) : 0 < T.length := by
  rcases h with ⟨h, rfl⟩ | ⟨_, k, _, _, rfl⟩
  · exact List.length_pos_of_mem h
  · rw [List.length_append, List.length_cons]; omega
theorem fnd_at {l : List Bl} {d : List Int} {j : Nat} {x : Bl} (hx : l[j]? = some x) (hd : x.d = d) (hb : ∀ y ∈ l.take j, y.d ≠ d) : fnd l d = some x := by
  have hlt := (List.getElem?_eq_some_iff.1 hx).1
  have e : l = l.take j ++ x :: l.drop (j + 1) := by
    have h1 : l.drop j = x :: l.drop (j + 1) := by rw [List.drop_eq_getElem_cons hlt, (List.getElem?_eq_some_iff.1 hx).2]
    rw [← h1, List.take_append_drop]
  unfold fnd
  rw [e, List.find?_append, List.find?_eq_none.2 (fun z hz => by simpa using hb z hz), Option.none_or, List.find?_cons_of_pos (by simpa using hd)]
theorem not_before {A : List (List Int)} {i : Nat} {d : List Int} (h : A.Nodup) (hd : A[i]? = some d) : d ∉ A.take i := fun hm => by
  have hlt := (List.getElem?_eq_some_iff.1 hd).1
  have e : A.drop i = d :: A.drop (i + 1) := by rw [List.drop_eq_getElem_cons hlt, (List.getElem?_eq_some_iff.1 hd).2]
  rw [← List.take_append_drop i A, List.nodup_append] at h
  exact h.2.2 d hm d (by rw [e]; simp) rfl
def ClR (l : List Bl) (R : List (List Int)) (e : Ending) (w' : World) : Prop := ∃ gp np cp gm nm cm P M, e = .returned (.tuple #[.slice gp np cp, .slice gm nm cm]) ∧ CloD l R P M ∧ DigsIn w' w'.heap.size gp np cp P ∧ DigsIn w' w'.heap.size gm nm cm M ∧ (gp = none → cp = 0) ∧ (gm = none → cm = 0)
theorem own_shape0 {w : World} {base : Nat} {v : Value} {l : List (List Int)} (h : OwnDg w base v l) : ∃ sp n cap, v = .slice sp n cap ∧ l.length = n := by
  obtain ⟨_, ⟨e, e0⟩ | ⟨g, c, u, e, _⟩⟩ := h.1
  · exact ⟨none, 0, 0, e, by omega⟩
  · exact ⟨_, _, _, e, rfl⟩
set_option maxRecDepth 100000 in
set_option maxHeartbeats 8000000 in
theorem rclo_any (sp : Option Addr) (n cap : Nat) (l : List Bl) (rp : Option Addr) (rn rc : Nat) (R : List (List Int)) (w : World) (hl : BlsIn w w.heap.size sp n cap l) (hR : DigsIn w w.heap.size rp rn rc R) (hn : n ≤ 1000) (hpot : rn + pot l [] ≤ 80000000) :
    Calls Tryz.prog 7 #[.slice sp n cap, .slice rp rn rc] w fun e w' => ClR l R e w' ∧ Below w.heap.size w w' := by
  have HL := Lib.hid hl; have HR := Lib.hid hR; have HPOT := Lib.hid hpot
  have hrn : rn ≤ 80000000 := by omega
  clear hl hR hpot
  go_enter Tryz.func7, Tryz.ntmps7
  go_wp2_with fail
  go_loopw [6, 7] (fun v i wr => ∃ (k m c : Nat) (g : Option Addr) (A : List (List Int)), v = .slice g m c ∧ i = .int .i64 k ∧ k ≤ rn ∧ Hid (OwnDg wr w.heap.size (.slice g m c) A ∧ A.length = m ∧ m ≤ k ∧ RtsI R A k ∧ Below w.heap.size w wr)) (fun _ i _ => rn - (intOf i).toNat)
  case atStart => exact ⟨0, 0, 0, none, [], rfl, rfl, Nat.zero_le _, OwnDg.nil _ _, rfl, Nat.le_refl _, RtsI.nil R, Below.refl _ _⟩
  case round =>
    obtain ⟨k, m, c, g, A, rfl, rfl, hk, H⟩ := hrel
    have HO := Lib.hid H.out.1; have HLN := Lib.hid H.out.2.1; have hmk := H.out.2.2.1; have HI := Lib.hid H.out.2.2.2.1; have HB := Lib.hid H.out.2.2.2.2
    clear H
    by_cases hlt : k < rn
    · have hd : decide ((k : Int) < (rn : Int)) = true := by simp; omega
      obtain ⟨d, db, doff, hdk, hd32, rfl, hdb, hdc, hdr⟩ := digs_at (HR.out.below HB.out (Nat.le_refl _)) hlt
      have HDR := Lib.hid hdr; have HID := Lib.hid (info_d hd32); have HD32 := Lib.hid hd32; have HDK := Lib.hid hdk; have HDB := Lib.hid (Nat.lt_of_lt_of_le hdb HB.out.size)
      have p1 : (0 : Int) ≤ (k : Int) := by omega
      have p2 : (k : Int) < (rn : Int) := by omega
      have HNE := Lib.hid (fun W => neqD d zed hd32.1 rfl W)
      clear hdk hd32 hdr hdb
      by_cases hz : d = zed
      · have hne : ∀ W, (binOp .neq 29 (.agg (d.map (Value.int .u8)).toArray) (.agg (zed.map (Value.int .u8)).toArray)).run Tryz.prog W = .ok (.bool false) W := fun W => by have := HNE.out W; rw [decide_eq_true hz] at this; exact this
        have HI2 := Lib.hid (HI.out.skip HDK.out (.inl hz))
        clear hz
        go_wp2_with (first
          | (refine wpList_load_mid rfl 29 _ rfl db (doff + k * 32) rfl _ _ HDR.out Tryz.underlying29 rfl HID.out ?_)
          | (refine wpList_build_eqG rfl 29 [] rfl [] rfl _ (buildZ _) ?_; rw [zed_v]))
        go_roundw
        case rel => exact ⟨k + 1, m, c, g, A, rfl, by go_num, hlt, HO.out, HLN.out, by omega, HI2.out, HB.out⟩
        case measure => simp [intOf]; omega
      have hne : ∀ W, (binOp .neq 29 (.agg (d.map (Value.int .u8)).toArray) (.agg (zed.map (Value.int .u8)).toArray)).run Tryz.prog W = .ok (.bool true) W := fun W => by have := HNE.out W; rw [decide_eq_false hz] at this; exact this
      have HHAS := Lib.hid (has_anyG g m c A d wr (HO.out.digs HLN.out) HD32.out (by omega))
      by_cases hin : d ∈ A
      · rw [decide_eq_true hin] at HHAS
        have HI2 := Lib.hid (HI.out.skip HDK.out (.inr hin))
        clear hz hin
        go_wp2_with (first
          | (refine wpList_load_mid rfl 29 _ rfl db (doff + k * 32) rfl _ _ HDR.out Tryz.underlying29 rfl HID.out ?_)
          | (refine wpList_build_eqG rfl 29 [] rfl [] rfl _ (buildZ _) ?_; rw [zed_v])
          | (refine wpList_load_gD (by rfl) 29 _ rfl db (doff + k * 32) rfl _ _ HDR.out Tryz.underlying29 rfl HID.out ?_))
        refine HHAS.out.mono ?_
        rintro e w1 ⟨rfl, b1⟩
        have HO1 := Lib.hid (HO.out.below b1); have HB1 := Lib.hid (HB.out.trans (b1.mono HB.out.size))
        clear b1
        go_wp2_with fail
        go_roundw
        case rel => exact ⟨k + 1, m, c, g, A, rfl, by go_num, hlt, HO1.out, HLN.out, by omega, HI2.out, HB1.out⟩
        case measure => simp [intOf]; omega
      rw [decide_eq_false hin] at HHAS
      have HI2 := Lib.hid (HI.out.add HDK.out hz hin)
      clear hz hin
      go_wp2_with (first
        | (refine wpList_load_mid rfl 29 _ rfl db (doff + k * 32) rfl _ _ HDR.out Tryz.underlying29 rfl HID.out ?_)
        | (refine wpList_build_eqG rfl 29 [] rfl [] rfl _ (buildZ _) ?_; rw [zed_v])
        | (refine wpList_load_gD (by rfl) 29 _ rfl db (doff + k * 32) rfl _ _ HDR.out Tryz.underlying29 rfl HID.out ?_))
      refine HHAS.out.mono ?_
      rintro e w1 ⟨rfl, b1⟩
      have HO1 := Lib.hid (HO.out.below b1); have HB1 := Lib.hid (HB.out.trans (b1.mono HB.out.size))
      have HDR1 := Lib.hid (range_belowG HDR.out b1 HDB.out)
      clear b1
      have HM := Lib.hid HLN.out.symm
      go_wp2_with (first
        | (refine wpList_load_mid rfl 29 _ rfl db (doff + k * 32) rfl _ _ HDR1.out Tryz.underlying29 rfl HID.out ?_)
        | (refine wpList_slice_eqG rfl 25 1 [(0, .tmp 40)] rfl [(0, .agg (dv d))] rfl _ _ (sliceDg _ d HD32.out) ?_; have HZ4 := Lib.hid (show (w1.alloc (.cells (dv d) 29)).rangeAt w1.heap.size 0 (d.map (Value.int .u8)) from range_row (pre := []) (post := []) (heap_alloc_new w1 _) (by simp [dv]) rfl); have HO4 := Lib.hid (HO1.out.below ((Below.refl w1.heap.size w1).alloc (Nat.le_refl _) (.cells (dv d) 29))); have HB4 := Lib.hid (HB1.out.alloc HB1.out.size (.cells (dv d) 29)); generalize World.alloc w1 _ = w4 at *)
        | (at_builtin; refine wpList_append_dgG rfl (.tmp 36) (.tmp 41) rfl w.heap.size _ A m HM.out rfl HO4.out w1.heap.size d rfl HZ4.out HD32.out (by omega) HB4.out.size ?_; intro sp5 cap5 w5 HO5 HB5 HG5))
      have HB6 := Lib.hid (HB4.out.trans HB5.out)
      have HLN5 : Hid ((A ++ [d]).length = m + 1) := by show _ = _; rw [List.length_append, HLN.out]; rfl
      go_roundw
      case rel => exact ⟨k + 1, m + 1, cap5, sp5, A ++ [d], rfl, by go_num, hlt, HO5.out, HLN5.out, by omega, HI2.out, HB6.out⟩
      case measure => simp [intOf]; omega
    · obtain rfl : k = rn := by omega
      have hd : decide ((k : Int) < (k : Int)) = false := by simp
      have HQ0 := Lib.hid (HI.out.q (L := l) (by rw [HR.out.len]; exact Nat.le_refl _))
      obtain ⟨wx, hwx⟩ : ∃ wx, wx = wr := ⟨_, rfl⟩
      subst hwx
      clear HI
      go_wp2_with fail
      go_loopw [6, 8, 9, 10] (fun v6 v8 v9 iv wr => ∃ (i m c pm pc mm mc : Nat) (g pg mg : Option Addr) (A P M : List (List Int)), v6 = .slice g m c ∧ v8 = .slice pg pm pc ∧ v9 = .slice mg mm mc ∧ iv = .int .i64 i ∧ i ≤ m ∧ Hid ((OwnDg wr w.heap.size (.slice g m c) A ∧ A.length = m) ∧ (DigsIn wr wr.heap.size pg pm pc P ∧ (pg = none → pc = 0) ∧ ApD (.slice g m c) pg ∧ LowD wr pg) ∧ (DigsIn wr wr.heap.size mg mm mc M ∧ (mg = none → mc = 0) ∧ ApD (.slice g m c) mg ∧ LowD wr mg) ∧ CloQ l R A P M i ∧ m + pot l (A.take i) ≤ k + pot l [] ∧ Below w.heap.size w wr)) (fun _ _ _ iv _ => 80000001 - (intOf iv).toNat)
      case atStart => exact ⟨0, m, c, 0, 0, 0, 0, g, none, none, A, [], [], rfl, rfl, rfl, rfl, Nat.zero_le _, ⟨HO.out, HLN.out⟩, ⟨(OwnDg.nil wx 0).digs rfl, fun _ => rfl, apD_nil _, lowD_nil _⟩, ⟨(OwnDg.nil wx 0).digs rfl, fun _ => rfl, apD_nil _, lowD_nil _⟩, HQ0.out, by rw [List.take_zero]; exact Nat.add_le_add_right hmk _, HB.out⟩
      case round =>
        clear HO HLN HQ0 HB hmk
        obtain ⟨i, m, c, pm, pc, mm, mc, g, pg, mg, A, P, M, rfl, rfl, rfl, rfl, hi, H⟩ := hrel
        have HO := Lib.hid H.out.1.1; have HLN := Lib.hid H.out.1.2; have HP := Lib.hid H.out.2.1; have HM := Lib.hid H.out.2.2.1; have HQ := Lib.hid H.out.2.2.2.1; have HPT := Lib.hid H.out.2.2.2.2.1; have HB := Lib.hid H.out.2.2.2.2.2
        have hm4 : m ≤ 80000000 := by have h1 := H.out.2.2.2.2.1; have h2 := HPOT.out; omega
        have hpm : pm ≤ m ∧ mm ≤ m := by
          have h1 := H.out.2.2.2.1.pres; have h2 := H.out.2.2.2.1.miss
          have h3 := som_few h1; have h4 := som_few h2
          rw [List.length_take, H.out.1.2] at h3 h4
          rw [H.out.2.1.1.len] at h3; rw [H.out.2.2.1.1.len] at h4
          omega
        clear H
        by_cases hlt : i < m
        · have hd : decide ((i : Int) < (m : Int)) = true := by simp; omega
          obtain ⟨d, db, doff, hdk, hd32, hge, hdb, hdc, hdr⟩ := digs_at (HO.out.digs HLN.out) hlt
          subst hge
          have HDR := Lib.hid hdr; have HID := Lib.hid (info_d hd32); have HD32 := Lib.hid hd32; have HDK := Lib.hid hdk; have HDB := Lib.hid hdb
          have p1 : (0 : Int) ≤ (i : Int) := by omega
          have p2 : (i : Int) < (m : Int) := by omega
          clear hdk hd32 hdr hdb
          go_wp2_with (refine wpList_load_mid rfl 29 _ rfl db (doff + i * 32) rfl _ _ HDR.out Tryz.underlying29 rfl HID.out ?_)
          refine (rget_any sp n cap l d wr (HL.out.up HB.out (Nat.le_refl _)) (by omega) HD32.out).mono ?_
          rintro e w1 ⟨hget, b1⟩
          have HDR1 := Lib.hid (range_belowG HDR.out b1 HDB.out)
          have HDB1 := Lib.hid (Nat.lt_of_lt_of_le HDB.out b1.size)
          have HO1 := Lib.hid (HO.out.below b1); have HB1 := Lib.hid (HB.out.trans (b1.mono HB.out.size))
          have HP1 := Lib.hid (And.intro (HP.out.1.upD b1 b1.size) (And.intro HP.out.2.1 (And.intro HP.out.2.2.1 (HP.out.2.2.2.mono b1.size))))
          have HM1 := Lib.hid (And.intro (HM.out.1.upD b1 b1.size) (And.intro HM.out.2.1 (And.intro HM.out.2.2.1 (HM.out.2.2.2.mono b1.size))))
          clear b1
          rcases hget with ⟨rfl, hno⟩ | ⟨j, x, rfl, hx, hxd, hbef⟩
          · have HFN := Lib.hid (show fnd l d = none from List.find?_eq_none.2 (fun x hx => by simpa using hno x hx))
            clear hno
            go_wp2_with (refine wpList_load_mid rfl 29 _ rfl db (doff + i * 32) rfl _ _ HDR1.out Tryz.underlying29 rfl HID.out ?_)
            refine (radd_at mg mm mc M d w1 HM1.out.1 HM1.out.2.1 HD32.out (by omega)).mono ?_
            rintro e w2 ⟨mg2, mm2, mc2, T, rfl, hadd, hdg2, hn2, hwh, b2⟩
            have HQ2 := Lib.hid (HQ.out.lost HDK.out HFN.out hadd)
            have HM2 := Lib.hid (And.intro hdg2 (And.intro hn2 (And.intro (show ApD (.slice (some ⟨db, doff, none⟩) m c) mg2 from by
              rcases hwh with h | h
              · rw [h]; exact HM1.out.2.2.1
              · exact ApD.fresh (n := 0) (cap := 0) HO1.out h) (show LowD w2 mg2 from fun b off e => digs_lt hdg2 (by rw [← hdg2.len]; exact addL_pos hadd) e))))
            have HO2 := Lib.hid (HO1.out.below b2); have HB2 := Lib.hid (HB1.out.trans (b2.mono HB1.out.size))
            have HP2 := Lib.hid (And.intro (HP1.out.1.upD b2 b2.size) (And.intro HP1.out.2.1 (And.intro HP1.out.2.2.1 (HP1.out.2.2.2.mono b2.size))))
            have HPT2 : Hid (m + pot l (A.take (i + 1)) ≤ k + pot l []) := by
              show _ ≤ _
              rw [take_snocD HDK.out]
              have h1 := pot_more (L := l) (P := A.take i) d; have h2 := HPT.out; omega
            clear hadd hdg2 hn2 hwh b2
            go_wp2_with fail
            go_roundw
            case rel => exact ⟨i + 1, m, c, pm, pc, mm2, mc2, some ⟨db, doff, none⟩, pg, mg2, A, P, T, rfl, rfl, rfl, by go_num, hlt, ⟨HO2.out, HLN.out⟩, HP2.out, HM2.out, HQ2.out, HPT2.out, HB2.out⟩
            case measure => simp [intOf]; omega
          · have HFS := Lib.hid (fnd_at hx hxd hbef)
            have HDX := Lib.hid ((HL.out.dat x (List.mem_of_getElem? hx)).up HB1.out (Nat.le_refl _))
            clear hx hxd hbef
            go_wp2_with (refine wpList_load_mid rfl 29 _ rfl db (doff + i * 32) rfl _ _ HDR1.out Tryz.underlying29 rfl HID.out ?_)
            refine (radd_at pg pm pc P d w1 HP1.out.1 HP1.out.2.1 HD32.out (by omega)).mono ?_
            rintro e w2 ⟨pg2, pm2, pc2, T, rfl, hadd, hdg2, hn2, hwh, b2⟩
            have HADD := Lib.hid hadd
            have HP2 := Lib.hid (And.intro hdg2 (And.intro hn2 (And.intro (show ApD (.slice (some ⟨db, doff, none⟩) m c) pg2 from by
              rcases hwh with h | h
              · rw [h]; exact HP1.out.2.2.1
              · exact ApD.fresh (n := 0) (cap := 0) HO1.out h) (show LowD w2 pg2 from fun b off e => digs_lt hdg2 (by rw [← hdg2.len]; exact addL_pos hadd) e))))
            have HO2 := Lib.hid (HO1.out.below b2); have HB2 := Lib.hid (HB1.out.trans (b2.mono HB1.out.size))
            have HM2 := Lib.hid (And.intro (HM1.out.1.upD b2 b2.size) (And.intro HM1.out.2.1 (And.intro HM1.out.2.2.1 (HM1.out.2.2.2.mono b2.size))))
            have HDX2 := Lib.hid (HDX.out.up b2 (Nat.le_refl _))
            have HDBN := Lib.hid (dec_bnd ⟨(uOf x.b).toArray⟩)
            clear hadd hdg2 hn2 hwh b2
            go_wp2_with fail
            refine (refLinks_any x.sp x.n x.cap (uOf x.b) w2 HDX2.out.src.bsrc HDBN.out.1 HDBN.out.2.1).mono ?_
            rintro e w3 ⟨sl, ml, cl, rfl, hml, hown3, b3⟩
            have HML := Lib.hid (show ml = (lnkB x).length from hml)
            have hml4 : ml ≤ 80000000 := by
              have h1 := pot_add HFS.out (not_before HQ.out.nd HDK.out); have h2 := HPT.out; have h3 := HPOT.out
              have h4 : ml = (lnkB x).length := hml
              omega
            have HLK := Lib.hid (And.intro ((show OwnDg w3 w2.heap.size (.slice sl ml cl) (lnkB x) from hown3).digs hml.symm) (And.intro (ApD.fresh (n := 0) (cap := 0) HO2.out (own_blk hown3)) (own_low hown3)))
            have HO3 := Lib.hid (HO2.out.below b3); have HB3 := Lib.hid (HB2.out.trans (b3.mono HB2.out.size))
            have HP3 := Lib.hid (And.intro (HP2.out.1.upD b3 b3.size) (And.intro HP2.out.2.1 (And.intro HP2.out.2.2.1 (HP2.out.2.2.2.mono b3.size))))
            have HM3 := Lib.hid (And.intro (HM2.out.1.upD b3 b3.size) (And.intro HM2.out.2.1 (And.intro HM2.out.2.2.1 (HM2.out.2.2.2.mono b3.size))))
            have HLNK := Lib.hid HLN.out
            clear hml hown3 b3
            go_wp2_with fail
            go_loopw [6, 14] (fun v6 jv wr => ∃ (j m2 c2 : Nat) (g2 : Option Addr) (B : List (List Int)), v6 = .slice g2 m2 c2 ∧ jv = .int .i64 j ∧ j ≤ ml ∧ m2 ≤ m + j ∧ Hid ((OwnDg wr w.heap.size (.slice g2 m2 c2) (A ++ B) ∧ (A ++ B).length = m2) ∧ LksI A (lnkB x) B j ∧ (DigsIn wr wr.heap.size pg2 pm2 pc2 T ∧ (pg2 = none → pc2 = 0) ∧ ApD (.slice g2 m2 c2) pg2 ∧ LowD wr pg2) ∧ (DigsIn wr wr.heap.size mg mm mc M ∧ (mg = none → mc = 0) ∧ ApD (.slice g2 m2 c2) mg ∧ LowD wr mg) ∧ (DigsIn wr wr.heap.size sl ml cl (lnkB x) ∧ ApD (.slice g2 m2 c2) sl ∧ LowD wr sl) ∧ Below w.heap.size w wr)) (fun _ jv _ => ml - (intOf jv).toNat)
            case atStart => exact ⟨0, m, c, some ⟨db, doff, none⟩, [], rfl, rfl, Nat.zero_le _, Nat.le_refl _, ⟨by rw [List.append_nil]; exact HO3.out, by rw [List.append_nil]; exact HLN.out⟩, LksI.nil HQ.out.nd, HP3.out, HM3.out, HLK.out, HB3.out⟩
            case round =>
              clear HO HP HM HB HO1 HP1 HM1 HB1 HO2 HP2 HM2 HB2 HO3 HP3 HM3 HB3 HLK HDR HDR1 HDB HDB1 HDX HDX2
              obtain ⟨j, m2, c2, g2, B, rfl, rfl, hj, hm2, H⟩ := hrel
              have HO := Lib.hid H.out.1.1; have HLNB := Lib.hid H.out.1.2; have HI := Lib.hid H.out.2.1; have HP := Lib.hid H.out.2.2.1; have HM := Lib.hid H.out.2.2.2.1; have HK := Lib.hid H.out.2.2.2.2.1; have HB := Lib.hid H.out.2.2.2.2.2
              clear H
              by_cases hjl : j < ml
              · have hd2 : decide ((j : Int) < (ml : Int)) = true := by simp; omega
                obtain ⟨e2, eb, eoff, hek, he32, hge2, heb, hec, her⟩ := digs_at HK.out.1 hjl
                subst hge2
                have HER := Lib.hid her; have HIE := Lib.hid (info_d he32); have HE32 := Lib.hid he32; have HEK := Lib.hid hek; have HEB := Lib.hid heb
                have p3 : (0 : Int) ≤ (j : Int) := by omega
                have p4 : (j : Int) < (ml : Int) := by omega
                have HHAS := Lib.hid (has_anyG g2 m2 c2 (A ++ B) e2 wr (HO.out.digs HLNB.out) HE32.out (by omega))
                clear hek he32 her heb
                by_cases hin : e2 ∈ A ++ B
                · rw [decide_eq_true hin] at HHAS
                  have HI2 := Lib.hid (HI.out.skip HEK.out hin)
                  clear hin
                  go_wp2_with (refine wpList_load_mid rfl 29 _ rfl eb (eoff + j * 32) rfl _ _ HER.out Tryz.underlying29 rfl HIE.out ?_)
                  refine HHAS.out.mono ?_
                  rintro e w4 ⟨rfl, b4⟩
                  have HO4 := Lib.hid (HO.out.below b4); have HB4 := Lib.hid (HB.out.trans (b4.mono HB.out.size))
                  have HP4 := Lib.hid (And.intro (HP.out.1.upD b4 b4.size) (And.intro HP.out.2.1 (And.intro HP.out.2.2.1 (HP.out.2.2.2.mono b4.size))))
                  have HM4 := Lib.hid (And.intro (HM.out.1.upD b4 b4.size) (And.intro HM.out.2.1 (And.intro HM.out.2.2.1 (HM.out.2.2.2.mono b4.size))))
                  have HK4 := Lib.hid (And.intro (HK.out.1.upD b4 b4.size) (And.intro HK.out.2.1 (HK.out.2.2.mono b4.size)))
                  clear b4
                  go_wp2_with fail
                  go_roundw
                  case rel => exact ⟨j + 1, m2, c2, g2, B, rfl, by go_num, hjl, by omega, ⟨HO4.out, HLNB.out⟩, HI2.out, HP4.out, HM4.out, HK4.out, HB4.out⟩
                  case measure => simp [intOf]; omega
                · rw [decide_eq_false hin] at HHAS
                  have HI2 := Lib.hid (HI.out.add HEK.out hin)
                  clear hin
                  go_wp2_with (refine wpList_load_mid rfl 29 _ rfl eb (eoff + j * 32) rfl _ _ HER.out Tryz.underlying29 rfl HIE.out ?_)
                  refine HHAS.out.mono ?_
                  rintro e w4 ⟨rfl, b4⟩
                  have HO4 := Lib.hid (HO.out.below b4); have HB4 := Lib.hid (HB.out.trans (b4.mono HB.out.size))
                  have HP4 := Lib.hid (And.intro (HP.out.1.upD b4 b4.size) (And.intro HP.out.2.1 (And.intro HP.out.2.2.1 (HP.out.2.2.2.mono b4.size))))
                  have HM4 := Lib.hid (And.intro (HM.out.1.upD b4 b4.size) (And.intro HM.out.2.1 (And.intro HM.out.2.2.1 (HM.out.2.2.2.mono b4.size))))
                  have HK4 := Lib.hid (And.intro (HK.out.1.upD b4 b4.size) (And.intro HK.out.2.1 (HK.out.2.2.mono b4.size)))
                  have HER4 := Lib.hid (range_belowG HER.out b4 HEB.out)
                  have HMB := Lib.hid HLNB.out.symm
                  clear b4
                  go_wp2_with (first
                    | (refine wpList_load_mid rfl 29 _ rfl eb (eoff + j * 32) rfl _ _ HER4.out Tryz.underlying29 rfl HIE.out ?_)
                    | (refine wpList_slice_eqG rfl 25 1 [(0, .tmp 91)] rfl [(0, .agg (dv e2))] rfl _ _ (sliceDg _ e2 HE32.out) ?_; have HZ5 := Lib.hid (show (w4.alloc (.cells (dv e2) 29)).rangeAt w4.heap.size 0 (e2.map (Value.int .u8)) from range_row (pre := []) (post := []) (heap_alloc_new w4 _) (by simp [dv]) rfl); have hb5 : Below w4.heap.size w4 (w4.alloc (.cells (dv e2) 29)) := (Below.refl w4.heap.size w4).alloc (Nat.le_refl _) _; have HO5 := Lib.hid (HO4.out.below hb5); have HB5 := Lib.hid (HB4.out.alloc HB4.out.size (.cells (dv e2) 29)); have HP5 := Lib.hid (And.intro (HP4.out.1.upD hb5 hb5.size) (And.intro HP4.out.2.1 (And.intro HP4.out.2.2.1 (HP4.out.2.2.2.mono hb5.size)))); have HM5 := Lib.hid (And.intro (HM4.out.1.upD hb5 hb5.size) (And.intro HM4.out.2.1 (And.intro HM4.out.2.2.1 (HM4.out.2.2.2.mono hb5.size)))); have HK5 := Lib.hid (And.intro (HK4.out.1.upD hb5 hb5.size) (And.intro HK4.out.2.1 (HK4.out.2.2.mono hb5.size))); clear hb5; generalize World.alloc w4 _ = w5 at *)
                    | (at_builtin; refine wpList_append_dg_at rfl (.tmp 87) (.tmp 92) rfl w.heap.size _ (A ++ B) m2 HMB.out rfl HO5.out w4.heap.size e2 rfl HZ5.out HE32.out (by omega) HB5.out.size ?_; intro sp6 cap6 w6 HO6 HB6 HG6 HW6))
                  have HB7 := Lib.hid (HB5.out.trans HB6.out)
                  have HO7 : Hid (OwnDg w6 w.heap.size (.slice sp6 (m2 + 1) cap6) (A ++ (B ++ [e2]))) := by show OwnDg _ _ _ _; rw [← List.append_assoc]; exact HO6.out
                  have HL7 : Hid ((A ++ (B ++ [e2])).length = m2 + 1) := by show _ = _; rw [← List.append_assoc, List.length_append, HLNB.out]; rfl
                  have HP7 := Lib.hid (And.intro (digs_grown HP5.out.1 HG6.out HP5.out.2.2.1) (And.intro HP5.out.2.1 (And.intro (HP5.out.2.2.1.grown HP5.out.2.2.2 HW6.out) (HP5.out.2.2.2.mono HG6.out.size))))
                  have HM7 := Lib.hid (And.intro (digs_grown HM5.out.1 HG6.out HM5.out.2.2.1) (And.intro HM5.out.2.1 (And.intro (HM5.out.2.2.1.grown HM5.out.2.2.2 HW6.out) (HM5.out.2.2.2.mono HG6.out.size))))
                  have HK7 := Lib.hid (And.intro (digs_grown HK5.out.1 HG6.out HK5.out.2.1) (And.intro (HK5.out.2.1.grown HK5.out.2.2 HW6.out) (HK5.out.2.2.mono HG6.out.size)))
                  go_roundw
                  case rel => exact ⟨j + 1, m2 + 1, cap6, sp6, B ++ [e2], rfl, by go_num, hjl, by omega, ⟨HO7.out, HL7.out⟩, HI2.out, HP7.out, HM7.out, HK7.out, HB7.out⟩
                  case measure => simp [intOf]; omega
              · obtain rfl : j = ml := by omega
                have hd2 : decide ((j : Int) < (j : Int)) = false := by simp
                have HQ2 := Lib.hid (HQ.out.found HDK.out HFS.out HADD.out HI.out.nd HI.out.frm (fun e he => HI.out.all e (by rw [List.take_of_length_le (by rw [HML.out]; exact Nat.le_refl _)]; exact he)))
                have HPT2 : Hid (m2 + pot l ((A ++ B).take (i + 1)) ≤ k + pot l []) := by
                  show _ ≤ _
                  have hil : i + 1 ≤ A.length := by rw [HLN.out]; exact hlt
                  rw [List.take_append_of_le_length hil, take_snocD HDK.out]
                  have h1 := pot_add HFS.out (not_before HQ.out.nd HDK.out); have h2 := HPT.out; have h3 := HML.out
                  have h4 := HI.out.few; have h5 := HLNB.out; have h6 := HLN.out
                  rw [List.length_append] at h5
                  omega
                have him : i + 1 ≤ m2 := by
                  have h5 := HLNB.out; have h6 := HLN.out
                  rw [List.length_append] at h5; omega
                go_wp2_with fail
                go_roundw
                case rel => exact ⟨i + 1, m2, c2, pm2, pc2, mm, mc, g2, pg2, mg, A ++ B, T, M, rfl, rfl, rfl, by go_num, him, ⟨HO.out, HLNB.out⟩, HP.out, HM.out, HQ2.out, HPT2.out, HB.out⟩
                case measure => simp [intOf]; omega
        · obtain rfl : i = m := by omega
          have hd : decide ((i : Int) < (i : Int)) = false := by simp
          go_wp2_with fail
          go_ret2
          exact ⟨⟨pg, pm, pc, mg, mm, mc, P, M, rfl, HQ.out.end_ (by rw [HLN.out]; exact Nat.le_refl _), HP.out.1, HM.out.1, HP.out.2.1, HM.out.2.1⟩, HB.out⟩
end Go.Proofs.YtdjknefbaclleaaGreatDoor
