/-
  Plain mathematics, without conditions beyond those of each lemma: composing, applying and comparing by insertion is what two ascending lists side by side give (no program is named here but for its name space).
-/
import Derived.Test.YtkookkhlgllneaaDoorSnM
namespace Go.Proofs.YtkookkhlgllneaaDoor
open Go

section
variable {α β : Type} {f : α → ByteArray} {g : β → ByteArray}
/-- one element more, if it makes one -/
def insF (g : β → ByteArray) (h : α → Option β) (out : List β) (x : α) : List β := match h x with
  | none => out
  | some z => ins g out z
theorem insF_none {h : α → Option β} {out : List β} {x : α} (e : h x = none) : insF g h out x = out := by unfold insF; rw [e]
theorem insF_some {h : α → Option β} {out : List β} {x : α} {z : β} (e : h x = some z) : insF g h out x = ins g out z := by unfold insF; rw [e]
theorem fold_insF (h : α → Option β) (hp : ∀ x z, h x = some z → g z = f x) : ∀ (l : List α) (out : List β), Srt f l → Srt g out → (∀ z ∈ out, ∀ x ∈ l, h x ≠ none → g z ≠ f x) →
    Srt g (l.foldl (insF g h) out) ∧ ∀ z, z ∈ l.foldl (insF g h) out ↔ z ∈ out ∨ ∃ x ∈ l, h x = some z
  | [], out, _, ho, _ => ⟨ho, fun z => by simp⟩
  | x :: l, out, hl, ho, hd => by
    rw [List.foldl_cons]
    cases e : h x with
    | none =>
      rw [insF_none e]
      obtain ⟨h1, h2⟩ := fold_insF h hp l out hl.tail ho fun z hz y hy => hd z hz y (List.mem_cons_of_mem _ hy)
      refine ⟨h1, fun z => (h2 z).trans ?_⟩
      constructor
      · rintro (h | ⟨y, hy, e'⟩)
        · exact .inl h
        · exact .inr ⟨y, List.mem_cons_of_mem _ hy, e'⟩
      · rintro (h | ⟨y, hy, e'⟩)
        · exact .inl h
        · rcases List.mem_cons.1 hy with rfl | hy
          · rw [e] at e'; cases e'
          · exact .inr ⟨y, hy, e'⟩
    | some u =>
      rw [insF_some e]
      have hu := hp x u e
      obtain ⟨h1, h2⟩ := fold_insF h hp l (ins g out u) hl.tail (ho.ins fun z hz => by rw [hu]; exact hd z hz x (by simp) (by rw [e]; simp)) fun z hz y hy hn => by
        rcases mem_ins.1 hz with rfl | hz
        · rw [hu]; exact pls_ne (hl.head hy)
        · exact hd z hz y (List.mem_cons_of_mem _ hy) hn
      refine ⟨h1, fun z => (h2 z).trans ?_⟩
      rw [mem_ins]
      constructor
      · rintro ((h | h) | ⟨y, hy, e'⟩)
        · exact .inr ⟨x, by simp, by rw [e, h]⟩
        · exact .inl h
        · exact .inr ⟨y, List.mem_cons_of_mem _ hy, e'⟩
      · rintro (h | ⟨y, hy, e'⟩)
        · exact .inl (.inr h)
        · rcases List.mem_cons.1 hy with rfl | hy
          · rw [e] at e'; injection e' with e'; exact .inl (.inl e'.symm)
          · exact .inr ⟨y, hy, e'⟩
end

/-! ### composing -/
def gC (b : List Cg) (x : Cg) : Option Cg := match fd b x.p with
  | none => some x
  | some y => if x.o = y.n then none else some ⟨y.p, x.o, y.n⟩
def okC (b : List Cg) (x : Cg) : Bool := match fd b x.p with
  | none => true
  | some y => decide (x.n = y.o)
theorem rc1_ok {b out : List Cg} {x : Cg} (h : okC b x = true) : rc1 b out x = some (insF Cg.p (gC b) out x) := by
  unfold rc1 insF gC
  unfold okC at h
  cases e : fd b x.p with
  | none => rfl
  | some y =>
    rw [e] at h
    have h' : x.n = y.o := by simpa using h
    show (if x.n = y.o then _ else _) = _
    rw [if_pos h']
    by_cases hh : x.o = y.n
    · simp [hh]
    · simp [hh]
theorem rc1_no {b out : List Cg} {x : Cg} (h : okC b x = false) : rc1 b out x = none := by
  unfold rc1
  unfold okC at h
  cases e : fd b x.p with
  | none => rw [e] at h; cases h
  | some y =>
    rw [e] at h
    have h' : ¬ x.n = y.o := by simpa using h
    show (if x.n = y.o then _ else _) = _
    rw [if_neg h']
theorem fold_rc1 (b : List Cg) : ∀ (a out : List Cg), a.foldlM (rc1 b) out = if a.all (okC b) then some (a.foldl (insF Cg.p (gC b)) out) else none
  | [], out => rfl
  | x :: a, out => by
    rw [List.foldlM_cons]
    by_cases h : okC b x = true
    · rw [rc1_ok h]
      show a.foldlM (rc1 b) _ = _
      rw [fold_rc1 b a, List.all_cons, h]; rfl
    · have h' : okC b x = false := by simpa using h
      rw [rc1_no h', List.all_cons, h']; rfl
def hC (a : List Cg) (y : Cg) : Option Cg := match fd a y.p with
  | none => some y
  | some _ => none
theorem rc2_eq (a out : List Cg) (y : Cg) : rc2 a out y = insF Cg.p (hC a) out y := by
  unfold rc2 insF hC
  cases fd a y.p <;> rfl
theorem gC_path {b : List Cg} {x z : Cg} (h : gC b x = some z) : z.p = x.p := by
  unfold gC at h
  cases e : fd b x.p with
  | none => rw [e] at h; injection h with h; rw [h]
  | some y =>
    rw [e] at h
    have h' : (if x.o = y.n then none else some (⟨y.p, x.o, y.n⟩ : Cg)) = some z := h
    split at h'
    · cases h'
    · injection h' with h'; rw [← h']; exact (fd_some e).2
theorem hC_path {a : List Cg} {x z : Cg} (h : hC a x = some z) : z.p = x.p := by
  unfold hC at h
  cases e : fd a x.p with
  | none => rw [e] at h; injection h with h; rw [h]
  | some y => rw [e] at h; cases h
theorem okC_all {a b : List Cg} (ha : Srt Cg.p a) (hb : Srt Cg.p b) : a.all (okC b) = (sbs a b).all okP := by
  rw [Bool.eq_iff_iff, List.all_eq_true, List.all_eq_true]
  constructor
  · intro h q hq
    rcases (mem_sbs a b ha hb q).1 hq with ⟨h1, h2, e⟩ | ⟨_, _, e⟩ | ⟨_, _, e⟩
    · have := h q.1 h1
      unfold okC at this
      rw [e, fd_of hb h2] at this
      exact this
    · unfold okP; rw [e]; simp [kp]
    · unfold okP; rw [e]; simp [kp]
  · intro h x hx
    unfold okC
    cases e : fd b x.p with
    | none => rfl
    | some y => exact h (x, y) ((mem_sbs a b ha hb _).2 (.inl ⟨hx, (fd_some e).1, (fd_some e).2.symm⟩))
theorem rcomp_eq {a b : List Cg} (ha : Srt Cg.p a) (hb : Srt Cg.p b) (hva : ∀ x ∈ a, x.o ≠ x.n) (hvb : ∀ x ∈ b, x.o ≠ x.n) : rcomp a b = fol a b := by
  unfold rcomp fol
  rw [fold_rc1, okC_all ha hb]
  by_cases hok : (sbs a b).all okP = true
  · rw [if_pos hok, if_pos hok]
    show some _ = some _
    congr 1
    have e2 : (fun l y => rc2 a l y) = insF Cg.p (hC a) := by funext l y; exact rc2_eq a l y
    show List.foldl (fun l y => rc2 a l y) _ b = _
    rw [e2]
    obtain ⟨s1, m1⟩ := fold_insF (f := Cg.p) (g := Cg.p) (gC b) (fun _ _ h => gC_path h) a [] ha List.Pairwise.nil (by simp)
    obtain ⟨s2, m2⟩ := fold_insF (f := Cg.p) (g := Cg.p) (hC a) (fun _ _ h => hC_path h) b _ hb s1 (fun z hz y hy hn => by
      rcases (m1 z).1 hz with h | ⟨x, hx, e⟩
      · cases h
      · rw [gC_path e]
        intro e'
        apply hn
        unfold hC
        rw [← e', fd_of ha hx])
    refine Srt.ext s2 (srt_fol ha hb (by unfold fol; rw [if_pos hok])) fun z => ?_
    rw [m2, m1, List.mem_filterMap]
    constructor
    · rintro ((h | ⟨x, hx, e⟩) | ⟨y, hy, e⟩)
      · cases h
      · unfold gC at e
        cases h : fd b x.p with
        | none =>
          rw [h] at e; injection e with e; subst e
          refine ⟨(x, kp x.p x.n), (mem_sbs a b ha hb _).2 (.inr (.inl ⟨hx, fd_none h, rfl⟩)), ?_⟩
          unfold outP; exact if_neg (hva x hx)
        | some y =>
          rw [h] at e
          refine ⟨(x, y), (mem_sbs a b ha hb _).2 (.inl ⟨hx, (fd_some h).1, (fd_some h).2.symm⟩), ?_⟩
          rw [← e]; unfold outP; show (if x.o = y.n then none else some (⟨x.p, x.o, y.n⟩ : Cg)) = if x.o = y.n then none else some ⟨y.p, x.o, y.n⟩
          rw [(fd_some h).2]
      · unfold hC at e
        cases h : fd a y.p with
        | none =>
          rw [h] at e; injection e with e; subst e
          refine ⟨(kp y.p y.o, y), (mem_sbs a b ha hb _).2 (.inr (.inr ⟨hy, fd_none h, rfl⟩)), ?_⟩
          unfold outP; exact if_neg (hvb y hy)
        | some x => rw [h] at e; cases e
    · rintro ⟨q, hq, e⟩
      rcases (mem_sbs a b ha hb q).1 hq with ⟨h1, h2, hp⟩ | ⟨h1, h2, hk⟩ | ⟨h1, h2, hk⟩
      · refine .inl (.inr ⟨q.1, h1, ?_⟩)
        unfold gC; rw [hp, fd_of hb h2]
        rw [← e]; unfold outP
        show (if q.1.o = q.2.n then none else some (⟨q.2.p, q.1.o, q.2.n⟩ : Cg)) = _
        rw [hp]
      · refine .inl (.inr ⟨q.1, h1, ?_⟩)
        unfold gC; rw [fd_not h2]
        rw [← e]; unfold outP; rw [hk]
        exact (if_neg (hva _ h1)).symm
      · refine .inr ⟨q.2, h1, ?_⟩
        unfold hC; rw [fd_not h2]
        rw [← e]; unfold outP; rw [hk]
        exact (if_neg (hvb _ h1)).symm
  · rw [if_neg hok, if_neg hok]; rfl

/-! ### applying -/
def cre (s : List En) : List Cg := s.map fun x => ⟨x.p, zed, x.d⟩
def inv (l : List Cg) : List Cg := l.map fun x => ⟨x.p, x.n, x.o⟩
theorem srt_cre {s : List En} (h : Srt En.p s) : Srt Cg.p (cre s) := List.pairwise_map.2 h
theorem srt_inv {s : List Cg} (h : Srt Cg.p s) : Srt Cg.p (inv s) := List.pairwise_map.2 h
/-- the digest of a path, zero if there is none -/
def fe (s : List En) (p : ByteArray) : Option En := s.find? fun x => decide (x.p = p)
theorem fe_some {l : List En} {p : ByteArray} {x : En} (h : fe l p = some x) : x ∈ l ∧ x.p = p := ⟨List.mem_of_find?_eq_some h, by simpa using List.find?_some h⟩
theorem fe_none {l : List En} {p : ByteArray} (h : fe l p = none) : ∀ x ∈ l, x.p ≠ p := fun x hx e => by
  have := List.find?_eq_none.1 h x hx; simp [e] at this
theorem fe_of {l : List En} (hl : Srt En.p l) {x : En} (hx : x ∈ l) : fe l x.p = some x := by
  cases h : fe l x.p with
  | none => exact absurd rfl (fe_none h x hx)
  | some y => rw [hl.one (fe_some h).1 hx (fe_some h).2]
theorem fe_not {l : List En} {p : ByteArray} (h : ∀ x ∈ l, x.p ≠ p) : fe l p = none := by
  cases e : fe l p with
  | none => rfl
  | some y => exact absurd (fe_some e).2 (h y (fe_some e).1)
def dg? (s : List En) (p : ByteArray) : List Int := match fe s p with
  | none => zed
  | some x => x.d
def needB (x : Cg) : Bool := decide (x.o ≠ zed)
def toE (x : Cg) : En := ⟨x.p, x.n⟩
/-- the snapshot after changes, as the code makes it -/
def capp (s : List En) (l : List Cg) : Option (List En) := match fol (cre s) l with
  | none => none
  | some m => if m.any needB then none else some (m.map toE)
def hA (x : Cg) : Option En := if x.n = zed then none else some ⟨x.p, x.n⟩
def keepA (l : List Cg) (x : En) : Bool := (fd l x.p).isNone
/-- .. as the reference makes it -/
def rapp (s : List En) (l : List Cg) : Option (List En) := if l.all (fun x => decide (dg? s x.p = x.o)) then some (l.foldl (insF En.p hA) (s.filter (keepA l))) else none
theorem hA_path {x : Cg} {z : En} (h : hA x = some z) : z.p = x.p := by
  unfold hA at h; split at h
  · cases h
  · injection h with h; rw [← h]
theorem mem_cre {s : List En} {x : Cg} : x ∈ cre s ↔ ∃ y ∈ s, x = ⟨y.p, zed, y.d⟩ := by
  unfold cre; rw [List.mem_map]
  constructor
  · rintro ⟨y, hy, e⟩; exact ⟨y, hy, e.symm⟩
  · rintro ⟨y, hy, e⟩; exact ⟨y, hy, e.symm⟩
theorem capp_eq {s : List En} {l : List Cg} (hs : Srt En.p s) (hl : Srt Cg.p l) (hvs : ∀ x ∈ s, x.d ≠ zed) (hvl : ∀ x ∈ l, x.o ≠ x.n) : capp s l = rapp s l := by
  have hc := srt_cre hs
  have hside := mem_sbs (cre s) l hc hl
  unfold capp rapp
  by_cases hok : l.all (fun x => decide (dg? s x.p = x.o)) = true
  · rw [if_pos hok]
    have hok' : ∀ x ∈ l, dg? s x.p = x.o := fun x hx => by simpa using List.all_eq_true.1 hok x hx
    have hall : (sbs (cre s) l).all okP = true := by
      rw [List.all_eq_true]; intro q hq
      rcases (hside q).1 hq with ⟨h1, h2, e⟩ | ⟨_, _, e⟩ | ⟨_, _, e⟩
      · obtain ⟨y, hy, ey⟩ := mem_cre.1 h1
        have := hok' _ h2
        rw [← e, ey] at this
        unfold dg? at this; rw [show (⟨y.p, zed, y.d⟩ : Cg).p = y.p from rfl, fe_of hs hy] at this
        unfold okP; rw [ey]; simpa using this
      · unfold okP; rw [e]; simp [kp]
      · unfold okP; rw [e]; simp [kp]
    have hfol : fol (cre s) l = some ((sbs (cre s) l).filterMap outP) := by unfold fol; rw [if_pos hall]
    rw [hfol]
    have hneed : ((sbs (cre s) l).filterMap outP).any needB = false := by
      rw [List.any_eq_false]; intro z hz
      obtain ⟨q, hq, e⟩ := List.mem_filterMap.1 hz
      have hz0 : z.o = q.1.o := by unfold outP at e; split at e; · cases e
                                   · injection e with e; rw [← e]
      unfold needB; rw [hz0]
      rcases (hside q).1 hq with ⟨h1, _, _⟩ | ⟨h1, _, _⟩ | ⟨h1, h2, e'⟩
      · obtain ⟨y, _, ey⟩ := mem_cre.1 h1; rw [ey]; simp
      · obtain ⟨y, _, ey⟩ := mem_cre.1 h1; rw [ey]; simp
      · have := hok' _ h1
        unfold dg? at this
        rw [fe_not (fun x hx => h2 ⟨x.p, zed, x.d⟩ (mem_cre.2 ⟨x, hx, rfl⟩))] at this
        rw [e']; simp [kp, ← this]
    show (if _ then none else some _) = some _
    rw [if_neg (by rw [hneed]; simp)]
    congr 1
    have hsf : Srt En.p (s.filter (keepA l)) := hs.sublist List.filter_sublist
    obtain ⟨s1, m1⟩ := fold_insF (f := Cg.p) (g := En.p) hA (fun _ _ h => hA_path h) l (s.filter (keepA l)) hl hsf (fun z hz x hx _ e => by
      have := (List.mem_filter.1 hz).2
      unfold keepA at this
      rw [e, fd_of hl hx] at this; cases this)
    refine Srt.ext (f := En.p) (List.pairwise_map.2 (show Srt Cg.p _ from srt_fol hc hl hfol)) s1 fun z => ?_
    rw [m1, List.mem_map]
    constructor
    · rintro ⟨u, hu, rfl⟩
      obtain ⟨q, hq, e⟩ := List.mem_filterMap.1 hu
      unfold outP at e
      split at e
      · cases e
      rename_i hne
      injection e with e
      rcases (hside q).1 hq with ⟨h1, h2, hp⟩ | ⟨h1, h2, hk⟩ | ⟨h1, h2, hk⟩
      · obtain ⟨y, hy, ey⟩ := mem_cre.1 h1
        refine .inr ⟨q.2, h2, ?_⟩
        unfold hA
        rw [ey] at hne hp
        rw [if_neg (fun e => hne e.symm), ← e, ey]
        show some _ = some (⟨y.p, q.2.n⟩ : En)
        rw [← hp]
      · obtain ⟨y, hy, ey⟩ := mem_cre.1 h1
        refine .inl (List.mem_filter.2 ?_)
        rw [← e, hk, ey]
        refine ⟨hy, ?_⟩
        unfold keepA; rw [ey] at h2; show (fd l y.p).isNone = true
        rw [fd_not h2]; rfl
      · refine .inr ⟨q.2, h1, ?_⟩
        have := hok' _ h1
        unfold dg? at this
        rw [fe_not (fun x hx => h2 ⟨x.p, zed, x.d⟩ (mem_cre.2 ⟨x, hx, rfl⟩))] at this
        unfold hA
        rw [hk] at hne
        have hz : q.2.o = zed := this.symm
        rw [if_neg (fun e => hne (by show q.2.o = q.2.n; rw [hz, e])), ← e, hk]; rfl
    · rintro (h | ⟨x, hx, e⟩)
      · obtain ⟨h1, h2⟩ := List.mem_filter.1 h
        have hn : fd l z.p = none := by unfold keepA at h2; simpa using h2
        refine ⟨⟨z.p, zed, z.d⟩, List.mem_filterMap.2 ⟨(⟨z.p, zed, z.d⟩, kp z.p z.d), (hside _).2 (.inr (.inl ⟨mem_cre.2 ⟨z, h1, rfl⟩, fd_none hn, rfl⟩)), ?_⟩, rfl⟩
        unfold outP; exact if_neg (fun e => hvs z h1 e.symm)
      · unfold hA at e
        split at e
        · cases e
        rename_i hnz
        injection e with e
        subst e
        have hx0 := hok' x hx
        unfold dg? at hx0
        cases hf : fe s x.p with
        | none =>
          rw [hf] at hx0
          refine ⟨x, List.mem_filterMap.2 ⟨(kp x.p x.o, x), (hside _).2 (.inr (.inr ⟨hx, fun w hw => ?_, rfl⟩)), ?_⟩, rfl⟩
          · obtain ⟨y, hy, ey⟩ := mem_cre.1 hw; rw [ey]; exact fe_none hf y hy
          · unfold outP; exact if_neg (hvl x hx)
        | some y =>
          refine ⟨⟨x.p, zed, x.n⟩, List.mem_filterMap.2 ⟨(⟨y.p, zed, y.d⟩, x), (hside _).2 (.inl ⟨mem_cre.2 ⟨y, (fe_some hf).1, rfl⟩, hx, (fe_some hf).2⟩), ?_⟩, rfl⟩
          unfold outP
          show (if zed = x.n then none else some (⟨y.p, zed, x.n⟩ : Cg)) = _
          rw [if_neg (fun e => hnz e.symm), (fe_some hf).2]
  · rw [if_neg hok]
    have hok2 : ∃ x ∈ l, dg? s x.p ≠ x.o := by
      have : l.all (fun x => decide (dg? s x.p = x.o)) = false := by simpa using hok
      rw [List.all_eq_false] at this
      obtain ⟨x, hx, h⟩ := this; exact ⟨x, hx, by simpa using h⟩
    obtain ⟨x, hx, hne⟩ := hok2
    cases hf : fe s x.p with
    | some y =>
      have h0 : fol (cre s) l = none := by
        unfold fol; rw [if_neg]
        intro h
        have := List.all_eq_true.1 h _ ((hside (⟨y.p, zed, y.d⟩, x)).2 (.inl ⟨mem_cre.2 ⟨y, (fe_some hf).1, rfl⟩, hx, (fe_some hf).2⟩))
        unfold dg? at hne; rw [hf] at hne
        exact hne (by simpa [okP] using this)
      rw [h0]
    | none =>
      unfold dg? at hne; rw [hf] at hne
      cases h0 : fol (cre s) l with
      | none => rfl
      | some m =>
        show (if _ then none else some _) = none
        rw [if_pos]
        rw [List.any_eq_true]
        refine ⟨x, ?_, by unfold needB; simpa using fun e : x.o = zed => hne e.symm⟩
        unfold fol at h0
        split at h0
        · injection h0 with h0
          rw [← h0, List.mem_filterMap]
          refine ⟨(kp x.p x.o, x), (hside _).2 (.inr (.inr ⟨hx, fun w hw => ?_, rfl⟩)), ?_⟩
          · obtain ⟨y, hy, ey⟩ := mem_cre.1 hw; rw [ey]; exact fe_none hf y hy
          · unfold outP; exact if_neg (hvl x hx)
        · cases h0

/-! ### comparing -/
def cdif (a b : List En) : List Cg := (sbs (inv (cre a)) (cre b)).filterMap outP
def hD1 (b : List En) (x : En) : Option Cg := if dg? b x.p = x.d then none else some ⟨x.p, x.d, dg? b x.p⟩
def hD2 (a : List En) (y : En) : Option Cg := match fe a y.p with
  | none => some ⟨y.p, zed, y.d⟩
  | some _ => none
def rdif (a b : List En) : List Cg := b.foldl (insF Cg.p (hD2 a)) (a.foldl (insF Cg.p (hD1 b)) [])
theorem hD1_path {b : List En} {x : En} {z : Cg} (h : hD1 b x = some z) : z.p = x.p := by
  unfold hD1 at h; split at h
  · cases h
  · injection h with h; rw [← h]
theorem hD2_path {a : List En} {x : En} {z : Cg} (h : hD2 a x = some z) : z.p = x.p := by
  unfold hD2 at h
  cases e : fe a x.p with
  | none => rw [e] at h; injection h with h; rw [← h]
  | some y => rw [e] at h; cases h
theorem mem_icre {s : List En} {x : Cg} : x ∈ inv (cre s) ↔ ∃ y ∈ s, x = ⟨y.p, y.d, zed⟩ := by
  unfold inv; rw [List.mem_map]
  constructor
  · rintro ⟨c, hc, e⟩
    obtain ⟨y, hy, ey⟩ := mem_cre.1 hc
    exact ⟨y, hy, by rw [← e, ey]⟩
  · rintro ⟨y, hy, e⟩; exact ⟨⟨y.p, zed, y.d⟩, mem_cre.2 ⟨y, hy, rfl⟩, e.symm⟩
theorem dif_fol (a b : List En) (ha : Srt En.p a) (hb : Srt En.p b) : fol (inv (cre a)) (cre b) = some (cdif a b) := by
  unfold fol cdif
  rw [if_pos]
  rw [List.all_eq_true]
  intro q hq
  rcases (mem_sbs _ _ (srt_inv (srt_cre ha)) (srt_cre hb) q).1 hq with ⟨h1, h2, _⟩ | ⟨_, _, e⟩ | ⟨_, _, e⟩
  · obtain ⟨x, _, ex⟩ := mem_icre.1 h1
    obtain ⟨y, _, ey⟩ := mem_cre.1 h2
    unfold okP; rw [ex, ey]; simp
  · unfold okP; rw [e]; simp [kp]
  · unfold okP; rw [e]; simp [kp]
theorem cdif_eq {a b : List En} (ha : Srt En.p a) (hb : Srt En.p b) (hva : ∀ x ∈ a, x.d ≠ zed) (hvb : ∀ x ∈ b, x.d ≠ zed) : cdif a b = rdif a b := by
  have hc := srt_inv (srt_cre ha)
  have hd := srt_cre hb
  have hside := mem_sbs _ _ hc hd
  obtain ⟨s1, m1⟩ := fold_insF (f := En.p) (g := Cg.p) (hD1 b) (fun _ _ h => hD1_path h) a [] ha List.Pairwise.nil (by simp)
  obtain ⟨s2, m2⟩ := fold_insF (f := En.p) (g := Cg.p) (hD2 a) (fun _ _ h => hD2_path h) b _ hb s1 (fun z hz y hy hn e => by
    rcases (m1 z).1 hz with h | ⟨x, hx, e'⟩
    · cases h
    · apply hn
      unfold hD2
      rw [hD1_path e'] at e
      rw [← e, fe_of ha hx])
  refine Srt.ext (srt_fol hc hd (dif_fol a b ha hb)) s2 fun z => ?_
  unfold rdif
  rw [m2, m1]
  unfold cdif
  rw [List.mem_filterMap]
  constructor
  · rintro ⟨q, hq, e⟩
    unfold outP at e
    split at e
    · cases e
    rename_i hne
    injection e with e
    rcases (hside q).1 hq with ⟨h1, h2, hp⟩ | ⟨h1, h2, hk⟩ | ⟨h1, h2, hk⟩
    · obtain ⟨x, hx, ex⟩ := mem_icre.1 h1
      obtain ⟨y, hy, ey⟩ := mem_cre.1 h2
      refine .inl (.inr ⟨x, hx, ?_⟩)
      rw [ex, ey] at hp hne
      have hpp : x.p = y.p := hp
      unfold hD1 dg?
      rw [hpp, fe_of hb hy]
      rw [if_neg (fun e => hne e.symm), ← e, ex, ey]
      show some (⟨y.p, x.d, y.d⟩ : Cg) = some ⟨x.p, x.d, y.d⟩
      rw [hpp]
    · obtain ⟨x, hx, ex⟩ := mem_icre.1 h1
      refine .inl (.inr ⟨x, hx, ?_⟩)
      unfold hD1 dg?
      rw [fe_not (fun y hy => by have := h2 ⟨y.p, zed, y.d⟩ (mem_cre.2 ⟨y, hy, rfl⟩); rw [ex] at this; exact this)]
      rw [if_neg (fun e => hva x hx e.symm), ← e, hk, ex]; rfl
    · obtain ⟨y, hy, ey⟩ := mem_cre.1 h1
      refine .inr ⟨y, hy, ?_⟩
      unfold hD2
      rw [fe_not (fun x hx => by have := h2 ⟨x.p, x.d, zed⟩ (mem_icre.2 ⟨x, hx, rfl⟩); rw [ey] at this; exact this)]
      rw [← e, hk, ey]; rfl
  · rintro ((h | ⟨x, hx, e⟩) | ⟨y, hy, e⟩)
    · cases h
    · unfold hD1 at e
      split at e
      · cases e
      rename_i hne
      injection e with e
      unfold dg? at e hne
      cases hf : fe b x.p with
      | none =>
        rw [hf] at e hne
        refine ⟨(⟨x.p, x.d, zed⟩, kp x.p zed), (hside _).2 (.inr (.inl ⟨mem_icre.2 ⟨x, hx, rfl⟩, fun w hw => ?_, rfl⟩)), ?_⟩
        · obtain ⟨y, hy, ey⟩ := mem_cre.1 hw; rw [ey]; exact fe_none hf y hy
        · unfold outP; rw [← e]; exact if_neg (hva x hx)
      | some y =>
        rw [hf] at e hne
        refine ⟨(⟨x.p, x.d, zed⟩, ⟨y.p, zed, y.d⟩), (hside _).2 (.inl ⟨mem_icre.2 ⟨x, hx, rfl⟩, mem_cre.2 ⟨y, (fe_some hf).1, rfl⟩, (fe_some hf).2.symm⟩), ?_⟩
        unfold outP; rw [← e]; exact if_neg (fun e => hne e.symm)
    · unfold hD2 at e
      cases hf : fe a y.p with
      | none =>
        rw [hf] at e; injection e with e
        refine ⟨(kp y.p zed, ⟨y.p, zed, y.d⟩), (hside _).2 (.inr (.inr ⟨mem_cre.2 ⟨y, hy, rfl⟩, fun w hw => ?_, rfl⟩)), ?_⟩
        · obtain ⟨x, hx, ex⟩ := mem_icre.1 hw; rw [ex]; exact fe_none hf x hx
        · unfold outP; rw [← e]; exact if_neg (fun e => hvb y hy e.symm)
      | some x => rw [hf] at e; cases e
end Go.Proofs.YtkookkhlgllneaaDoor
