/-
  The snapshot of a list of entries: plain mathematics.
-/
import Derived.Test.YtkookkhlgllneaaDoorGe
import Derived.Lib.Bytealg
import Derived.Sort.LotA
namespace Go.Proofs.YtkookkhlgllneaaDoor
open Go.RowKit

/-- the entries, one after another put in their place -/
def insL (l : List En) : List En := l.foldl (fun o x => ins En.p o x) []
def nodupE (l : List En) : Bool := decide ((l.map En.p).Nodup)
/-- what Make answers -/
def makeL (l : List En) : Except Int (List En) := if l.length ≤ 64 then (if l.any badE then .error 1 else if nodupE l then .ok (insL l) else .error 5) else .error 3
theorem makeL_long {l : List En} (h : ¬ l.length ≤ 64) : makeL l = .error 3 := if_neg h
theorem makeL_bad {l : List En} (h : l.length ≤ 64) (hb : l.any badE = true) : makeL l = .error 1 := by unfold makeL; rw [if_pos h, if_pos hb]
theorem makeL_twice {l : List En} (h : l.length ≤ 64) (hb : l.any badE = false) (hn : nodupE l = false) : makeL l = .error 5 := by unfold makeL; rw [if_pos h, if_neg (by rw [hb]; simp), if_neg (by rw [hn]; simp)]
theorem makeL_good {l : List En} (h : l.length ≤ 64) (hb : l.any badE = false) (hn : nodupE l = true) : makeL l = .ok (insL l) := by unfold makeL; rw [if_pos h, if_neg (by rw [hb]; simp), if_pos hn]
theorem insL_step {l : List En} {k : Nat} {x : En} (hx : l[k]? = some x) : insL (l.take (k + 1)) = ins En.p (insL (l.take k)) x := by
  unfold insL
  rw [List.take_add_one, hx, List.foldl_append]; rfl
theorem ins_perm (l : List En) (x : En) : (ins En.p l x).Perm (x :: l) := by
  induction l with
  | nil => exact List.Perm.refl _
  | cons y l ih =>
    rw [ins_cons]
    split
    · exact (List.Perm.cons y ih).trans (List.Perm.swap x y l)
    · exact List.Perm.refl _
theorem fold_ins_perm : ∀ (l o : List En), (l.foldl (fun o x => ins En.p o x) o).Perm (o ++ l)
  | [], o => by rw [List.append_nil]; exact List.Perm.refl _
  | x :: l, o => by
    rw [List.foldl_cons]
    refine (fold_ins_perm l (ins En.p o x)).trans ?_
    refine ((ins_perm o x).append_right l).trans ?_
    rw [List.cons_append]
    exact List.perm_middle.symm
theorem insL_perm (l : List En) : (insL l).Perm l := by
  have := fold_ins_perm l []
  rwa [List.nil_append] at this
theorem insL_length (l : List En) : (insL l).length = l.length := (insL_perm l).length_eq
theorem mem_insL {l : List En} {x : En} : x ∈ insL l ↔ x ∈ l := (insL_perm l).mem_iff
theorem fold_ins_srt : ∀ (l o : List En), Srt En.p o → (l.map En.p).Nodup → (∀ y ∈ o, ∀ x ∈ l, y.p ≠ x.p) → Srt En.p (l.foldl (fun o x => ins En.p o x) o)
  | [], o, h, _, _ => h
  | x :: l, o, h, hn, hd => by
    rw [List.map_cons, List.nodup_cons] at hn
    rw [List.foldl_cons]
    refine fold_ins_srt l _ (h.ins fun y hy => hd y hy x (by simp)) hn.2 ?_
    intro y hy z hz
    rcases mem_ins.1 hy with rfl | hy
    · exact fun e => hn.1 (by rw [e]; exact List.mem_map.2 ⟨z, hz, rfl⟩)
    · exact hd y hy z (by simp [hz])
theorem insL_srt {l : List En} (h : (l.map En.p).Nodup) : Srt En.p (insL l) := fold_ins_srt l [] List.Pairwise.nil h (by simp)
theorem srt_nodup {l : List En} (h : Srt En.p l) : (l.map En.p).Nodup := by
  unfold Srt at h
  unfold List.Nodup
  rw [List.pairwise_map]
  exact h.imp fun hxy => pls_ne hxy
theorem srt_uniq {a b : List En} (ha : Srt En.p a) (hb : Srt En.p b) (h : a.Perm b) : a = b :=
  List.Perm.eq_of_pairwise (fun x y _ _ h1 h2 => absurd h1 (by rw [pls_asymm h2]; simp)) ha hb h
/-- a list that is ascending, if not strictly -/
def Asc (l : List En) : Prop := l.Pairwise fun x y => pls y.p x.p = false
theorem asc_srt {l : List En} (h : Asc l) (hn : (l.map En.p).Nodup) : Srt En.p l := by
  unfold List.Nodup at hn
  rw [List.pairwise_map] at hn
  unfold Asc at h
  refine (h.and hn).imp ?_
  rintro x y ⟨h1, h2⟩
  by_cases hh : pls x.p y.p = true
  · exact hh
  · exact absurd (pls_tri (by simpa using hh) h1) h2
theorem asc_asc {l m : List En} (hm : Asc m) (hp : m.Perm l) : ascB En.p m = nodupE l := by
  rw [Bool.eq_iff_iff, ascB_iff]
  unfold nodupE
  rw [decide_eq_true_iff]
  have hq : (m.map En.p).Nodup ↔ (l.map En.p).Nodup := (hp.map En.p).nodup_iff
  exact ⟨fun h => hq.1 (srt_nodup h), fun h => asc_srt hm (hq.2 h)⟩
theorem asc_ins {l m : List En} (hm : Asc m) (hp : m.Perm l) (hn : nodupE l = true) : m = insL l := by
  have h1 : (l.map En.p).Nodup := of_decide_eq_true hn
  have h2 : (m.map En.p).Nodup := (hp.map En.p).nodup_iff.2 h1
  exact srt_uniq (asc_srt hm h2) (insL_srt h1) (hp.trans (insL_perm l).symm)
/-- a path that is there already -/
theorem nodup_step {l : List En} {k : Nat} {x : En} (hx : l[k]? = some x) (h : ((l.take k).map En.p).Nodup) (hn : ∀ y ∈ insL (l.take k), y.p ≠ x.p) : ((l.take (k + 1)).map En.p).Nodup := by
  rw [List.take_add_one, hx]
  show ((l.take k ++ [x]).map En.p).Nodup
  rw [List.map_append, List.nodup_append]
  refine ⟨h, by simp, ?_⟩
  intro a ha b hb e
  have hb' : b = x.p := by simpa using hb
  obtain ⟨y, hy, rfl⟩ := List.mem_map.1 ha
  exact hn y (mem_insL.2 hy) (e.trans hb')
theorem nodup_twice {l : List En} {k : Nat} {x y : En} (hx : l[k]? = some x) (hy : y ∈ insL (l.take k)) (e : y.p = x.p) : nodupE l = false := by
  unfold nodupE
  rw [decide_eq_false_iff_not]
  intro hn
  have hs : ((l.take (k + 1)).map En.p).Nodup := by
    have : ((l.take (k + 1)).map En.p).Sublist (l.map En.p) := (List.take_sublist _ _).map _
    exact hn.sublist this
  rw [List.take_add_one, hx] at hs
  have hs' : ((l.take k ++ [x]).map En.p).Nodup := hs
  rw [List.map_append, List.nodup_append] at hs'
  exact hs'.2.2 y.p (List.mem_map.2 ⟨y, mem_insL.1 hy, rfl⟩) x.p (by simp) e
theorem nodup_end {l : List En} {k : Nat} (h : ((l.take k).map En.p).Nodup) (hk : l.length ≤ k) : nodupE l = true := by
  unfold nodupE
  rw [List.take_of_length_le hk] at h
  exact decide_eq_true h
theorem vld_make {l : List En} (hl : l.length ≤ 64) (hb : l.any badE = false) (hn : nodupE l = true) : vldE (insL l) = true := by
  unfold vldE
  rw [Bool.and_eq_true, Bool.and_eq_true]
  refine ⟨⟨decide_eq_true (by rw [insL_length]; exact hl), ?_⟩, (ascB_iff _).2 (insL_srt (of_decide_eq_true hn))⟩
  rw [Bool.not_eq_true', List.any_eq_false]
  intro z hz
  exact (List.any_eq_false.1 hb) z (mem_insL.1 hz)
theorem makeL_vld {l m : List En} (h : makeL l = .ok m) : vldE m = true := by
  unfold makeL at h
  split at h
  · rename_i hl
    split at h
    · cases h
    · rename_i hb
      split at h
      · rename_i hn
        injection h with h
        subst h
        exact vld_make hl (by simpa using hb) hn
      · cases h
  · cases h
theorem makeL_error {l : List En} {k : Int} (h : makeL l = .error k) : k ≠ 0 := by
  unfold makeL at h
  split at h
  · split at h
    · injection h with h; omega
    · split at h
      · cases h
      · injection h with h; omega
  · injection h with h; omega
theorem insL_ok {l : List En} (h : ∀ x ∈ l, OkE x) : ∀ x ∈ insL l, OkE x := fun x hx => h x (mem_insL.1 hx)
theorem cmpB_lt (a b : ByteArray) : decide (Lib.compareBytes a.data.toList b.data.toList < 0) = pls a b := by
  have h : ∀ (x y : List UInt8), decide (Lib.compareBytes x y < 0) = decide (x < y) := by
    intro x
    induction x with
    | nil => intro y; cases y <;> simp [Lib.compareBytes]
    | cons c x ih =>
      intro y
      cases y with
      | nil => simp [Lib.compareBytes]
      | cons d y =>
        rw [decide_eq_decide]
        have := ih y
        rw [decide_eq_decide] at this
        unfold Lib.compareBytes
        rw [List.cons_lt_cons_iff]
        by_cases h1 : c < d
        · simp [h1]
        · by_cases h2 : d < c
          · simp [h1, h2]
            intro e; subst e; exact absurd h2 (UInt8.lt_irrefl _)
          · have e : c = d := UInt8.le_antisymm (UInt8.not_lt.1 h2) (UInt8.not_lt.1 h1)
            subst e
            simp [UInt8.lt_irrefl, this]
  rw [h, Bool.eq_iff_iff, decide_eq_true_iff, pls_iff, Lib.toList_data, Lib.toList_data]
end Go.Proofs.YtkookkhlgllneaaDoor
