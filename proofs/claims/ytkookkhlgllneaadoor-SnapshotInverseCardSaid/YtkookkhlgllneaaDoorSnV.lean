/-
  Plain: what is between two snapshots, by the digests of a path; changes one behind the other, turned round.
-/
import Derived.Test.YtkookkhlgllneaaDoorGf
import Derived.Test.YtkookkhlgllneaaDoorGe
namespace Go.Proofs.YtkookkhlgllneaaDoor
open Go.RowKit

theorem dg?_of {l : List En} (h : Snap l) {x : En} (hx : x ∈ l) : dg? l x.p = x.d := by unfold dg?; rw [fe_of h.srt hx]
theorem dg?_some {l : List En} {p : ByteArray} (h : dg? l p ≠ zed) : ∃ x ∈ l, x.p = p ∧ x.d = dg? l p := by
  unfold dg? at h ⊢
  cases e : fe l p with
  | none => rw [e] at h; exact absurd rfl h
  | some x => exact ⟨x, (fe_some e).1, (fe_some e).2, rfl⟩
theorem dg?_not {l : List En} {p : ByteArray} (h : fe l p = none) : dg? l p = zed := by unfold dg?; rw [h]
theorem mem_cdif {a b : List En} (ha : Snap a) (hb : Snap b) (z : Cg) : z ∈ cdif a b ↔ z.o = dg? a z.p ∧ z.n = dg? b z.p ∧ z.o ≠ z.n := by
  rw [cdif_eq ha.srt hb.srt ha.some hb.some]
  obtain ⟨s1, m1⟩ := fold_insF (f := En.p) (g := Cg.p) (hD1 b) (fun _ _ h => hD1_path h) a [] ha.srt List.Pairwise.nil (by simp)
  obtain ⟨s2, m2⟩ := fold_insF (f := En.p) (g := Cg.p) (hD2 a) (fun _ _ h => hD2_path h) b _ hb.srt s1 (fun z hz y hy hn e => by
    rcases (m1 z).1 hz with h | ⟨x, hx, e'⟩
    · cases h
    · apply hn
      unfold hD2
      rw [hD1_path e'] at e
      rw [← e, fe_of ha.srt hx])
  unfold rdif
  rw [m2, m1]
  constructor
  · rintro ((h | ⟨x, hx, e⟩) | ⟨y, hy, e⟩)
    · cases h
    · unfold hD1 at e
      split at e
      · cases e
      rename_i hne
      injection e with e
      subst e
      exact ⟨(dg?_of ha hx).symm, rfl, fun h => hne h.symm⟩
    · unfold hD2 at e
      cases hf : fe a y.p with
      | some x => rw [hf] at e; cases e
      | none =>
        rw [hf] at e
        injection e with e
        subst e
        exact ⟨(dg?_not hf).symm, (dg?_of hb hy).symm, fun h => hb.some y hy h.symm⟩
  · rintro ⟨h1, h2, h3⟩
    by_cases hz : z.o = zed
    · have hn : dg? b z.p ≠ zed := by rw [← h2]; intro e; exact h3 (hz.trans e.symm)
      obtain ⟨y, hy, hp, hd⟩ := dg?_some hn
      have hfa : fe a z.p = none := by
        cases e : fe a z.p with
        | none => rfl
        | some x =>
          exfalso
          have h4 := ha.some x (fe_some e).1
          have h5 := dg?_of ha (fe_some e).1
          rw [(fe_some e).2, ← h1, hz] at h5
          exact h4 h5.symm
      refine .inr ⟨y, hy, ?_⟩
      unfold hD2
      rw [hp, hfa]
      show some (⟨z.p, zed, y.d⟩ : Cg) = some z
      rw [hd, ← h2, ← hz]
    · obtain ⟨x, hx, hp, hd⟩ := dg?_some (l := a) (p := z.p) (by rw [← h1]; exact hz)
      refine .inl (.inr ⟨x, hx, ?_⟩)
      unfold hD1
      rw [hp, hd, ← h1, ← h2, if_neg (fun e => h3 e.symm)]
theorem srt_cdif {a b : List En} (ha : Snap a) (hb : Snap b) : Srt Cg.p (cdif a b) := srt_fol (srt_inv (srt_cre ha.srt)) (srt_cre hb.srt) (dif_fol a b ha.srt hb.srt)
theorem len_cdif {a b : List En} (ha : Snap a) (hb : Snap b) : (cdif a b).length ≤ a.length + b.length := by
  rw [cdif_eq ha.srt hb.srt ha.some hb.some]
  unfold rdif
  have h : ∀ {α : Type} (h : α → Option Cg) (l : List α) (out : List Cg), (l.foldl (insF Cg.p h) out).length ≤ out.length + l.length := by
    intro α h l
    induction l with
    | nil => intro out; exact Nat.le_refl _
    | cons x l ih =>
      intro out
      rw [List.foldl_cons]
      have h1 := ih (insF Cg.p h out x)
      have h2 : (insF Cg.p h out x).length ≤ out.length + 1 := by
        unfold insF
        split
        · omega
        · rw [length_ins]; omega
      rw [List.length_cons]; omega
  have h3 := h (hD2 a) b (a.foldl (insF Cg.p (hD1 b)) [])
  have h4 := h (hD1 b) a []
  simp only [List.length_nil] at h4
  omega
theorem Snap.vld {l : List En} (h : Snap l) (hl : l.length ≤ 64) : vldE l = true := by
  unfold vldE
  rw [Bool.and_eq_true, Bool.and_eq_true]
  refine ⟨⟨by simpa using hl, ?_⟩, (ascB_iff l).2 h.srt⟩
  rw [Bool.not_eq_true', List.any_eq_false]
  intro x hx
  unfold badE
  rw [decide_eq_false (h.some x hx), h.path x hx]; simp
theorem cdif_path {a b : List En} (ha : Snap a) (hb : Snap b) {z : Cg} (h : z ∈ cdif a b) : pathB z.p = true := by
  obtain ⟨h1, h2, h3⟩ := (mem_cdif ha hb z).1 h
  by_cases hz : dg? a z.p = zed
  · have hn : dg? b z.p ≠ zed := fun e => h3 (by rw [h1, h2, hz, e])
    obtain ⟨y, hy, hp, _⟩ := dg?_some hn
    rw [← hp]; exact hb.path y hy
  · obtain ⟨x, hx, hp, _⟩ := dg?_some hz
    rw [← hp]; exact ha.path x hx
theorem vld_cdif {a b : List En} (ha : Snap a) (hb : Snap b) (hl : a.length + b.length ≤ 128) : vldC (cdif a b) = true := by
  unfold vldC
  rw [Bool.and_eq_true, Bool.and_eq_true]
  have := len_cdif ha hb
  refine ⟨⟨by simp; omega, ?_⟩, (ascB_iff _).2 (srt_cdif ha hb)⟩
  rw [Bool.not_eq_true', List.any_eq_false]
  intro x hx
  unfold badC
  rw [decide_eq_false ((mem_cdif ha hb x).1 hx).2.2, cdif_path ha hb hx]; simp
/-- from a to b, from b to c: from a to c -/
theorem fol_cdif {a b c : List En} (ha : Snap a) (hb : Snap b) (hc : Snap c) : fol (cdif a b) (cdif b c) = some (cdif a c) := by
  have hs1 := srt_cdif ha hb
  have hs2 := srt_cdif hb hc
  have hside := mem_sbs _ _ hs1 hs2
  have hall : (sbs (cdif a b) (cdif b c)).all okP = true := by
    rw [List.all_eq_true]
    intro q hq
    rcases (hside q).1 hq with ⟨h1, h2, hp⟩ | ⟨_, _, e⟩ | ⟨_, _, e⟩
    · unfold okP
      have k1 := ((mem_cdif ha hb _).1 h1).2.1
      have k2 := ((mem_cdif hb hc _).1 h2).1
      rw [k1, k2, hp]; simp
    · unfold okP; rw [e]; simp [kp]
    · unfold okP; rw [e]; simp [kp]
  have e0 : fol (cdif a b) (cdif b c) = some ((sbs (cdif a b) (cdif b c)).filterMap outP) := by unfold fol; rw [if_pos hall]
  rw [e0]
  refine congrArg some (Srt.ext (srt_fol hs1 hs2 e0) (srt_cdif ha hc) fun z => ?_)
  rw [List.mem_filterMap, mem_cdif ha hc]
  have keepB : ∀ p, (∀ y ∈ cdif b c, y.p ≠ p) → dg? b p = dg? c p := fun p h => by
    by_cases e : dg? b p = dg? c p
    · exact e
    · exact absurd rfl (h ⟨p, dg? b p, dg? c p⟩ ((mem_cdif hb hc _).2 ⟨rfl, rfl, e⟩))
  have keepA : ∀ p, (∀ y ∈ cdif a b, y.p ≠ p) → dg? a p = dg? b p := fun p h => by
    by_cases e : dg? a p = dg? b p
    · exact e
    · exact absurd rfl (h ⟨p, dg? a p, dg? b p⟩ ((mem_cdif ha hb _).2 ⟨rfl, rfl, e⟩))
  constructor
  · rintro ⟨q, hq, e⟩
    unfold outP at e
    split at e
    · cases e
    rename_i hne
    injection e with e
    subst e
    rcases (hside q).1 hq with ⟨h1, h2, hp⟩ | ⟨h1, h2, hk⟩ | ⟨h1, h2, hk⟩
    · refine ⟨((mem_cdif ha hb _).1 h1).1, ?_, hne⟩
      show q.2.n = dg? c q.1.p
      rw [hp]; exact ((mem_cdif hb hc _).1 h2).2.1
    · refine ⟨((mem_cdif ha hb _).1 h1).1, ?_, hne⟩
      show q.2.n = dg? c q.1.p
      rw [← keepB q.1.p h2, hk]
      exact ((mem_cdif ha hb _).1 h1).2.1
    · have e1 : q.1.p = q.2.p := by rw [hk]; rfl
      have e2 : q.1.o = q.2.o := by rw [hk]; rfl
      refine ⟨?_, ?_, hne⟩
      · show q.1.o = dg? a q.1.p
        rw [e1, e2, keepA q.2.p h2]; exact ((mem_cdif hb hc _).1 h1).1
      · show q.2.n = dg? c q.1.p
        rw [e1]; exact ((mem_cdif hb hc _).1 h1).2.1
  · rintro ⟨h1, h2, h3⟩
    by_cases e1 : dg? b z.p = z.o
    · have hm : (⟨z.p, z.o, z.n⟩ : Cg) ∈ cdif b c := (mem_cdif hb hc _).2 ⟨e1.symm, h2, h3⟩
      refine ⟨(kp z.p z.o, ⟨z.p, z.o, z.n⟩), (hside _).2 (.inr (.inr ⟨hm, fun w hw e => ?_, rfl⟩)), ?_⟩
      · have k := (mem_cdif ha hb w).1 hw
        have e' : w.p = z.p := e
        rw [e'] at k
        exact k.2.2 (by rw [k.1, k.2.1, ← h1, e1])
      · unfold outP; exact if_neg h3
    · have hm : (⟨z.p, z.o, dg? b z.p⟩ : Cg) ∈ cdif a b := (mem_cdif ha hb _).2 ⟨h1, rfl, fun e => e1 e.symm⟩
      by_cases e2 : dg? b z.p = z.n
      · refine ⟨(⟨z.p, z.o, dg? b z.p⟩, kp z.p (dg? b z.p)), (hside _).2 (.inr (.inl ⟨hm, fun w hw e => ?_, rfl⟩)), ?_⟩
        · have k := (mem_cdif hb hc w).1 hw
          have e' : w.p = z.p := e
          rw [e'] at k
          exact k.2.2 (by rw [k.1, k.2.1, ← h2, e2])
        · unfold outP kp
          show (if z.o = dg? b z.p then none else some (⟨z.p, z.o, dg? b z.p⟩ : Cg)) = some z
          rw [if_neg (fun e => e1 e.symm), e2]
      · have hm2 : (⟨z.p, dg? b z.p, z.n⟩ : Cg) ∈ cdif b c := (mem_cdif hb hc _).2 ⟨rfl, h2, e2⟩
        refine ⟨(⟨z.p, z.o, dg? b z.p⟩, ⟨z.p, dg? b z.p, z.n⟩), (hside _).2 (.inl ⟨hm, hm2, rfl⟩), ?_⟩
        unfold outP; exact if_neg h3
theorem sDiff_snap {a b : List En} (ha : Snap a) (hb : Snap b) (h1 : a.length ≤ 64) (h2 : b.length ≤ 64) : sDiff a b = .ok (cdif a b) := by
  unfold sDiff; rw [ha.vld h1, hb.vld h2]; rfl
theorem sCompose_snap {a b c : List En} (ha : Snap a) (hb : Snap b) (hc : Snap c) (h1 : a.length ≤ 64) (h2 : b.length ≤ 64) (h3 : c.length ≤ 64) : sCompose (cdif a b) (cdif b c) = .ok (cdif a c) := by
  unfold sCompose
  rw [vld_cdif ha hb (by omega), vld_cdif hb hc (by omega), fol_cdif ha hb hc]
  show (if 128 < (cdif a c).length then .error 3 else .ok (cdif a c) : Except Int (List Cg)) = _
  rw [if_neg (by have := len_cdif ha hc; omega)]
end Go.Proofs.YtkookkhlgllneaaDoor
