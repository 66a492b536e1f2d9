/-
  Plain: applying what is between two snapshots; turning it round.
-/
import Derived.Test.YtkookkhlgllneaaDoorSnV
import Derived.Test.YtkookkhlgllneaaDoorLawSnA
namespace Go.Proofs.YtkookkhlgllneaaDoor
open Go.RowKit

theorem inv_cdif {a b : List En} (ha : Snap a) (hb : Snap b) : inv (cdif a b) = cdif b a := by
  refine Srt.ext (srt_inv (srt_cdif ha hb)) (srt_cdif hb ha) fun z => ?_
  rw [mem_cdif hb ha]
  unfold inv
  rw [List.mem_map]
  constructor
  · rintro ⟨x, hx, rfl⟩
    have k := (mem_cdif ha hb x).1 hx
    exact ⟨k.2.1, k.1, fun e => k.2.2 e.symm⟩
  · rintro ⟨h1, h2, h3⟩
    exact ⟨⟨z.p, z.n, z.o⟩, (mem_cdif ha hb _).2 ⟨h2, h1, fun e => h3 e.symm⟩, rfl⟩
theorem fe_mem {l : List En} (h : Snap l) (z : En) : z ∈ l ↔ dg? l z.p = z.d ∧ z.d ≠ zed := by
  constructor
  · intro hz; exact ⟨dg?_of h hz, h.some z hz⟩
  · rintro ⟨h1, h2⟩
    obtain ⟨x, hx, hp, hd⟩ := dg?_some (l := l) (p := z.p) (by rw [h1]; exact h2)
    have : x = z := by
      cases x; cases z
      simp only at hp hd h1
      rw [h1] at hd
      subst hp; subst hd; rfl
    rw [← this]; exact hx
theorem rapp_cdif {a b : List En} (ha : Snap a) (hb : Snap b) : rapp a (cdif a b) = some b := by
  have hs := srt_cdif ha hb
  unfold rapp
  rw [if_pos]
  · refine congrArg some ?_
    have hkeep : Srt En.p (a.filter (keepA (cdif a b))) := List.Pairwise.filter _ ha.srt
    obtain ⟨s1, m1⟩ := fold_insF (f := Cg.p) (g := En.p) hA (fun _ _ h => hA_path h) (cdif a b) (a.filter (keepA (cdif a b))) hs hkeep (fun z hz x hx _ e => by
      have h1 := (List.mem_filter.1 hz).2
      unfold keepA at h1
      rw [e, fd_of hs hx] at h1
      cases h1)
    refine Srt.ext s1 hb.srt fun z => ?_
    rw [m1, List.mem_filter, fe_mem ha, fe_mem hb]
    have hno : (keepA (cdif a b) z = true) ↔ dg? a z.p = dg? b z.p := by
      unfold keepA
      constructor
      · intro h
        by_cases e : dg? a z.p = dg? b z.p
        · exact e
        · have hm : (⟨z.p, dg? a z.p, dg? b z.p⟩ : Cg) ∈ cdif a b := (mem_cdif ha hb _).2 ⟨rfl, rfl, e⟩
          have := fd_of hs hm
          have this' : fd (cdif a b) z.p = some ⟨z.p, dg? a z.p, dg? b z.p⟩ := this
          rw [this'] at h; cases h
      · intro e
        cases h : fd (cdif a b) z.p with
        | none => rfl
        | some x =>
          exfalso
          have k := (mem_cdif ha hb x).1 (fd_some h).1
          have hp := (fd_some h).2
          rw [hp] at k
          exact k.2.2 (by rw [k.1, k.2.1, e])
    rw [hno]
    constructor
    · rintro (⟨⟨h1, h2⟩, h3⟩ | ⟨x, hx, e⟩)
      · exact ⟨h3 ▸ h1, h2⟩
      · have k := (mem_cdif ha hb x).1 hx
        unfold hA at e
        split at e
        · cases e
        rename_i hne
        injection e with e
        subst e
        exact ⟨k.2.1.symm, hne⟩
    · rintro ⟨h1, h2⟩
      by_cases e : dg? a z.p = dg? b z.p
      · exact .inl ⟨⟨e.trans h1, h2⟩, e⟩
      · refine .inr ⟨⟨z.p, dg? a z.p, dg? b z.p⟩, (mem_cdif ha hb _).2 ⟨rfl, rfl, e⟩, ?_⟩
        unfold hA
        show (if dg? b z.p = zed then none else some (⟨z.p, dg? b z.p⟩ : En)) = some z
        rw [h1, if_neg h2]
  · rw [List.all_eq_true]
    intro x hx
    have k := (mem_cdif ha hb x).1 hx
    simp [k.1]
theorem sApply_snap {a b : List En} (ha : Snap a) (hb : Snap b) (h1 : a.length ≤ 64) (h2 : b.length ≤ 64) : sApply a (cdif a b) = .ok b := by
  rw [← sRApply_eq]
  unfold sRApply
  rw [ha.vld h1, vld_cdif ha hb (by omega), rapp_cdif ha hb]
  show (if 64 < b.length then .error 3 else .ok b : Except Int (List En)) = _
  rw [if_neg (by omega)]
theorem sInvert_snap {a b : List En} (ha : Snap a) (hb : Snap b) (h1 : a.length ≤ 64) (h2 : b.length ≤ 64) : sInvert (cdif a b) = .ok (cdif b a) := by
  unfold sInvert
  rw [vld_cdif ha hb (by omega), inv_cdif ha hb]; rfl
end Go.Proofs.YtkookkhlgllneaaDoor
