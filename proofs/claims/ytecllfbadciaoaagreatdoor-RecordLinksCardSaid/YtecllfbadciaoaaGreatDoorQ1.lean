/-
  Plain mathematics, without conditions beyond those of each lemma: composing, applying and comparing by insertion is what two ascending lists side by side give (no program is named here but for its name space).
-/
import Derived.Test.YtecllfbadciaoaaGreatDoorZip
import Derived.Test.YtecllfbadciaoaaGreatDoorQ0
import Derived.Test.YtecllfbadciaoaaGreatDoorProg
import Derived.WalkSpells
import Derived.WalkLawsBesides
import Derived.ChangeKeysEq
import Derived.Deep.MidRow
import Derived.Laws.Tables
import Derived.Great.BuildSlice
import Derived.Laws.CopyOwn
import Derived.Lib.SplitLaws
import Derived.Lib.IndexBytes
set_option maxRecDepth 100000
set_option maxHeartbeats 8000000
namespace Go.Proofs.YtecllfbadciaoaaGreatDoor
open Go
section
variable {α β : Type} {f : α → ByteArray} {g : β → ByteArray}
def insF (g : β → ByteArray) (h : α → Option β) (out : List β) (x : α) : List β := match h x with
 | none => out
 | some z => ins g out z
theorem insF_none {h : α → Option β} {out : List β} {x : α} (e : h x = none) : insF g h out x = out := by unfold insF; rw [e]
theorem insF_some {h : α → Option β} {out : List β} {x : α} {z : β} (e : h x = some z) : insF g h out x = ins g out z := by unfold insF; rw [e]
theorem fold_insF (h : α → Option β) (hp : ∀ x z, h x = some z → g z = f x) : ∀ (l : List α) (out : List β), Srt f l → Srt g out → (∀ z ∈ out, ∀ x ∈ l, h x ≠ none → g z ≠ f x) →
 Srt g (l.foldl (insF g h) out) ∧ ∀ z, z ∈ l.foldl (insF g h) out ↔ z ∈ out ∨ ∃ x ∈ l, h x = some z
 | [], out, _, ho, _ => ⟨ho, fun z => by simp⟩
 | x :: l, out, hl, ho, hd => by
   rw [List.foldl_cons]
   cases e : h x with
   | none =>
     rw [insF_none e]
     obtain ⟨h1, h2⟩ := fold_insF h hp l out hl.tail ho fun z hz y hy => hd z hz y (List.mem_cons_of_mem _ hy)
     refine ⟨h1, fun z => (h2 z).trans ?_⟩
     constructor
     ·rintro (h | ⟨y, hy, e'⟩)
      ·exact .inl h
      ·exact .inr ⟨y, List.mem_cons_of_mem _ hy, e'⟩
     ·rintro (h | ⟨y, hy, e'⟩)
      ·exact .inl h
      ·rcases List.mem_cons.1 hy with rfl | hy
       ·rw [e] at e'; cases e'
       ·exact .inr ⟨y, hy, e'⟩
   | some u =>
     rw [insF_some e]
     have hu := hp x u e
     obtain ⟨h1, h2⟩ := fold_insF h hp l (ins g out u) hl.tail (ho.ins fun z hz => by rw [hu]; exact hd z hz x (by simp) (by rw [e]; simp)) fun z hz y hy hn => by
      rcases mem_ins.1 hz with rfl | hz
      ·rw [hu]; exact pls_ne (hl.head hy)
      ·exact hd z hz y (List.mem_cons_of_mem _ hy) hn
     refine ⟨h1, fun z => (h2 z).trans ?_⟩
     rw [mem_ins]
     constructor
     ·rintro ((h | h) | ⟨y, hy, e'⟩)
      ·exact .inr ⟨x, by simp, by rw [e, h]⟩
      ·exact .inl h
      ·exact .inr ⟨y, List.mem_cons_of_mem _ hy, e'⟩
     ·rintro (h | ⟨y, hy, e'⟩)
      ·exact .inl (.inr h)
      ·rcases List.mem_cons.1 hy with rfl | hy
       ·rw [e] at e'; injection e' with e'; exact .inl (.inl e'.symm)
       ·exact .inr ⟨y, hy, e'⟩
end
/-! ### composing -/
def hC (a : List Cg) (y : Cg) : Option Cg := match fd a y.p with
 | none => some y
 | some _ => none
def cre (s : List En) : List Cg := s.map fun x => ⟨x.p, zed, x.d⟩
def inv (l : List Cg) : List Cg := l.map fun x => ⟨x.p, x.n, x.o⟩
theorem srt_cre {s : List En} (h : Srt En.p s) : Srt Cg.p (cre s) := List.pairwise_map.2 h
theorem srt_inv {s : List Cg} (h : Srt Cg.p s) : Srt Cg.p (inv s) := List.pairwise_map.2 h
def fe (s : List En) (p : ByteArray) : Option En := s.find? fun x => decide (x.p = p)
theorem fe_some {l : List En} {p : ByteArray} {x : En} (h : fe l p = some x) : x ∈ l ∧ x.p = p := ⟨List.mem_of_find?_eq_some h, by simpa using List.find?_some h⟩
theorem fe_none {l : List En} {p : ByteArray} (h : fe l p = none) : ∀ x ∈ l, x.p ≠ p := fun x hx e => by
 have := List.find?_eq_none.1 h x hx; simp [e] at this
theorem fe_of {l : List En} (hl : Srt En.p l) {x : En} (hx : x ∈ l) : fe l x.p = some x := by
 cases h : fe l x.p with
 | none => exact absurd rfl (fe_none h x hx)
 | some y => rw [hl.one (fe_some h).1 hx (fe_some h).2]
theorem fe_not {l : List En} {p : ByteArray} (h : ∀ x ∈ l, x.p ≠ p) : fe l p = none := by
 cases e : fe l p with
 | none => rfl
 | some y => exact absurd (fe_some e).2 (h y (fe_some e).1)
def dg? (s : List En) (p : ByteArray) : List Int := match fe s p with
 | none => zed
 | some x => x.d
def needB (x : Cg) : Bool := decide (x.o ≠ zed)
def toE (x : Cg) : En := ⟨x.p, x.n⟩
def capp (s : List En) (l : List Cg) : Option (List En) := match fol (cre s) l with
 | none => none
 | some m => if m.any needB then none else some (m.map toE)
def hA (x : Cg) : Option En := if x.n = zed then none else some ⟨x.p, x.n⟩
def keepA (l : List Cg) (x : En) : Bool := (fd l x.p).isNone
def rapp (s : List En) (l : List Cg) : Option (List En) := if l.all (fun x => decide (dg? s x.p = x.o)) then some (l.foldl (insF En.p hA) (s.filter (keepA l))) else none
theorem hA_path {x : Cg} {z : En} (h : hA x = some z) : z.p = x.p := by
 unfold hA at h; split at h
 ·cases h
 ·injection h with h; rw [← h]
theorem mem_cre {s : List En} {x : Cg} : x ∈ cre s ↔ ∃ y ∈ s, x = ⟨y.p, zed, y.d⟩ := by
 unfold cre; rw [List.mem_map]
 constructor
 ·rintro ⟨y, hy, e⟩; exact ⟨y, hy, e.symm⟩
 ·rintro ⟨y, hy, e⟩; exact ⟨y, hy, e.symm⟩
theorem capp_eq {s : List En} {l : List Cg} (hs : Srt En.p s) (hl : Srt Cg.p l) (hvs : ∀ x ∈ s, x.d ≠ zed) (hvl : ∀ x ∈ l, x.o ≠ x.n) : capp s l = rapp s l := by
 have hc := srt_cre hs
 have hside := mem_sbs (cre s) l hc hl
 unfold capp rapp
 by_cases hok : l.all (fun x => decide (dg? s x.p = x.o)) = true
 ·rw [if_pos hok]
  have hok' : ∀ x ∈ l, dg? s x.p = x.o := fun x hx => by simpa using List.all_eq_true.1 hok x hx
  have hall : (sbs (cre s) l).all okP = true := by
   rw [List.all_eq_true]; intro q hq
   rcases (hside q).1 hq with ⟨h1, h2, e⟩ | ⟨_, _, e⟩ | ⟨_, _, e⟩
   ·obtain ⟨y, hy, ey⟩ := mem_cre.1 h1
    have := hok' _ h2
    rw [← e, ey] at this
    unfold dg? at this; rw [show (⟨y.p, zed, y.d⟩ : Cg).p = y.p from rfl, fe_of hs hy] at this
    unfold okP; rw [ey]; simpa using this
   ·unfold okP; rw [e]; simp [kp]
   ·unfold okP; rw [e]; simp [kp]
  have hfol : fol (cre s) l = some ((sbs (cre s) l).filterMap outP) := by unfold fol; rw [if_pos hall]
  rw [hfol]
  have hneed : ((sbs (cre s) l).filterMap outP).any needB = false := by
   rw [List.any_eq_false]; intro z hz
   obtain ⟨q, hq, e⟩ := List.mem_filterMap.1 hz
   have hz0 : z.o = q.1.o := by unfold outP at e; split at e; · cases e
                                ·injection e with e; rw [← e]
   unfold needB; rw [hz0]
   rcases (hside q).1 hq with ⟨h1, _, _⟩ | ⟨h1, _, _⟩ | ⟨h1, h2, e'⟩
   ·obtain ⟨y, _, ey⟩ := mem_cre.1 h1; rw [ey]; simp
   ·obtain ⟨y, _, ey⟩ := mem_cre.1 h1; rw [ey]; simp
   ·have := hok' _ h1
    unfold dg? at this
    rw [fe_not (fun x hx => h2 ⟨x.p, zed, x.d⟩ (mem_cre.2 ⟨x, hx, rfl⟩))] at this
    rw [e']; simp [kp, ← this]
  show (if _ then none else some _) = some _
  rw [if_neg (by rw [hneed]; simp)]
  congr 1
  have hsf : Srt En.p (s.filter (keepA l)) := hs.sublist List.filter_sublist
  obtain ⟨s1, m1⟩ := fold_insF (f := Cg.p) (g := En.p) hA (fun _ _ h => hA_path h) l (s.filter (keepA l)) hl hsf (fun z hz x hx _ e => by
   have := (List.mem_filter.1 hz).2
   unfold keepA at this
   rw [e, fd_of hl hx] at this; cases this)
  refine Srt.ext (f := En.p) (List.pairwise_map.2 (show Srt Cg.p _ from srt_fol hc hl hfol)) s1 fun z => ?_
  rw [m1, List.mem_map]
  constructor
  ·rintro ⟨u, hu, rfl⟩
   obtain ⟨q, hq, e⟩ := List.mem_filterMap.1 hu
   unfold outP at e
   split at e
   ·cases e
   rename_i hne
   injection e with e
   rcases (hside q).1 hq with ⟨h1, h2, hp⟩ | ⟨h1, h2, hk⟩ | ⟨h1, h2, hk⟩
   ·obtain ⟨y, hy, ey⟩ := mem_cre.1 h1
    refine .inr ⟨q.2, h2, ?_⟩
    unfold hA
    rw [ey] at hne hp
    rw [if_neg (fun e => hne e.symm), ← e, ey]
    show some _ = some (⟨y.p, q.2.n⟩ : En)
    rw [← hp]
   ·obtain ⟨y, hy, ey⟩ := mem_cre.1 h1
    refine .inl (List.mem_filter.2 ?_)
    rw [← e, hk, ey]
    refine ⟨hy, ?_⟩
    unfold keepA; rw [ey] at h2; show (fd l y.p).isNone = true
    rw [fd_not h2]; rfl
   ·refine .inr ⟨q.2, h1, ?_⟩
    have := hok' _ h1
    unfold dg? at this
    rw [fe_not (fun x hx => h2 ⟨x.p, zed, x.d⟩ (mem_cre.2 ⟨x, hx, rfl⟩))] at this
    unfold hA
    rw [hk] at hne
    have hz : q.2.o = zed := this.symm
    rw [if_neg (fun e => hne (by show q.2.o = q.2.n; rw [hz, e])), ← e, hk]; rfl
  ·rintro (h | ⟨x, hx, e⟩)
   ·obtain ⟨h1, h2⟩ := List.mem_filter.1 h
    have hn : fd l z.p = none := by unfold keepA at h2; simpa using h2
    refine ⟨⟨z.p, zed, z.d⟩, List.mem_filterMap.2 ⟨(⟨z.p, zed, z.d⟩, kp z.p z.d), (hside _).2 (.inr (.inl ⟨mem_cre.2 ⟨z, h1, rfl⟩, fd_none hn, rfl⟩)), ?_⟩, rfl⟩
    unfold outP; exact if_neg (fun e => hvs z h1 e.symm)
   ·unfold hA at e
    split at e
    ·cases e
    rename_i hnz
    injection e with e
    subst e
    have hx0 := hok' x hx
    unfold dg? at hx0
    cases hf : fe s x.p with
    | none =>
      rw [hf] at hx0
      refine ⟨x, List.mem_filterMap.2 ⟨(kp x.p x.o, x), (hside _).2 (.inr (.inr ⟨hx, fun w hw => ?_, rfl⟩)), ?_⟩, rfl⟩
      ·obtain ⟨y, hy, ey⟩ := mem_cre.1 hw; rw [ey]; exact fe_none hf y hy
      ·unfold outP; exact if_neg (hvl x hx)
    | some y =>
      refine ⟨⟨x.p, zed, x.n⟩, List.mem_filterMap.2 ⟨(⟨y.p, zed, y.d⟩, x), (hside _).2 (.inl ⟨mem_cre.2 ⟨y, (fe_some hf).1, rfl⟩, hx, (fe_some hf).2⟩), ?_⟩, rfl⟩
      unfold outP
      show (if zed = x.n then none else some (⟨y.p, zed, x.n⟩ : Cg)) = _
      rw [if_neg (fun e => hnz e.symm), (fe_some hf).2]
 ·rw [if_neg hok]
  have hok2 : ∃ x ∈ l, dg? s x.p ≠ x.o := by
   have : l.all (fun x => decide (dg? s x.p = x.o)) = false := by simpa using hok
   rw [List.all_eq_false] at this
   obtain ⟨x, hx, h⟩ := this; exact ⟨x, hx, by simpa using h⟩
  obtain ⟨x, hx, hne⟩ := hok2
  cases hf : fe s x.p with
  | some y =>
    have h0 : fol (cre s) l = none := by
     unfold fol; rw [if_neg]
     intro h
     have := List.all_eq_true.1 h _ ((hside (⟨y.p, zed, y.d⟩, x)).2 (.inl ⟨mem_cre.2 ⟨y, (fe_some hf).1, rfl⟩, hx, (fe_some hf).2⟩))
     unfold dg? at hne; rw [hf] at hne
     exact hne (by simpa [okP] using this)
    rw [h0]
  | none =>
    unfold dg? at hne; rw [hf] at hne
    cases h0 : fol (cre s) l with
    | none => rfl
    | some m =>
      show (if _ then none else some _) = none
      rw [if_pos]
      rw [List.any_eq_true]
      refine ⟨x, ?_, by unfold needB; simpa using fun e : x.o = zed => hne e.symm⟩
      unfold fol at h0
      split at h0
      ·injection h0 with h0
       rw [← h0, List.mem_filterMap]
       refine ⟨(kp x.p x.o, x), (hside _).2 (.inr (.inr ⟨hx, fun w hw => ?_, rfl⟩)), ?_⟩
       ·obtain ⟨y, hy, ey⟩ := mem_cre.1 hw; rw [ey]; exact fe_none hf y hy
       ·unfold outP; exact if_neg (hvl x hx)
      ·cases h0
/-! ### comparing -/
def cdif (a b : List En) : List Cg := (sbs (inv (cre a)) (cre b)).filterMap outP
def hD1 (b : List En) (x : En) : Option Cg := if dg? b x.p = x.d then none else some ⟨x.p, x.d, dg? b x.p⟩
def hD2 (a : List En) (y : En) : Option Cg := match fe a y.p with
 | none => some ⟨y.p, zed, y.d⟩
 | some _ => none
def rdif (a b : List En) : List Cg := b.foldl (insF Cg.p (hD2 a)) (a.foldl (insF Cg.p (hD1 b)) [])
theorem hD1_path {b : List En} {x : En} {z : Cg} (h : hD1 b x = some z) : z.p = x.p := by
 unfold hD1 at h; split at h
 ·cases h
 ·injection h with h; rw [← h]
theorem hD2_path {a : List En} {x : En} {z : Cg} (h : hD2 a x = some z) : z.p = x.p := by
 unfold hD2 at h
 cases e : fe a x.p with
 | none => rw [e] at h; injection h with h; rw [← h]
 | some y => rw [e] at h; cases h
theorem mem_icre {s : List En} {x : Cg} : x ∈ inv (cre s) ↔ ∃ y ∈ s, x = ⟨y.p, y.d, zed⟩ := by
 unfold inv; rw [List.mem_map]
 constructor
 ·rintro ⟨c, hc, e⟩
  obtain ⟨y, hy, ey⟩ := mem_cre.1 hc
  exact ⟨y, hy, by rw [← e, ey]⟩
 ·rintro ⟨y, hy, e⟩; exact ⟨⟨y.p, zed, y.d⟩, mem_cre.2 ⟨y, hy, rfl⟩, e.symm⟩
theorem dif_fol (a b : List En) (ha : Srt En.p a) (hb : Srt En.p b) : fol (inv (cre a)) (cre b) = some (cdif a b) := by
 unfold fol cdif
 rw [if_pos]
 rw [List.all_eq_true]
 intro q hq
 rcases (mem_sbs _ _ (srt_inv (srt_cre ha)) (srt_cre hb) q).1 hq with ⟨h1, h2, _⟩ | ⟨_, _, e⟩ | ⟨_, _, e⟩
 ·obtain ⟨x, _, ex⟩ := mem_icre.1 h1
  obtain ⟨y, _, ey⟩ := mem_cre.1 h2
  unfold okP; rw [ex, ey]; simp
 ·unfold okP; rw [e]; simp [kp]
 ·unfold okP; rw [e]; simp [kp]
theorem cdif_eq {a b : List En} (ha : Srt En.p a) (hb : Srt En.p b) (hva : ∀ x ∈ a, x.d ≠ zed) (hvb : ∀ x ∈ b, x.d ≠ zed) : cdif a b = rdif a b := by
 have hc := srt_inv (srt_cre ha)
 have hd := srt_cre hb
 have hside := mem_sbs _ _ hc hd
 obtain ⟨s1, m1⟩ := fold_insF (f := En.p) (g := Cg.p) (hD1 b) (fun _ _ h => hD1_path h) a [] ha List.Pairwise.nil (by simp)
 obtain ⟨s2, m2⟩ := fold_insF (f := En.p) (g := Cg.p) (hD2 a) (fun _ _ h => hD2_path h) b _ hb s1 (fun z hz y hy hn e => by
  rcases (m1 z).1 hz with h | ⟨x, hx, e'⟩
  ·cases h
  ·apply hn
   unfold hD2
   rw [hD1_path e'] at e
   rw [← e, fe_of ha hx])
 refine Srt.ext (srt_fol hc hd (dif_fol a b ha hb)) s2 fun z => ?_
 unfold rdif
 rw [m2, m1]
 unfold cdif
 rw [List.mem_filterMap]
 constructor
 ·rintro ⟨q, hq, e⟩
  unfold outP at e
  split at e
  ·cases e
  rename_i hne
  injection e with e
  rcases (hside q).1 hq with ⟨h1, h2, hp⟩ | ⟨h1, h2, hk⟩ | ⟨h1, h2, hk⟩
  ·obtain ⟨x, hx, ex⟩ := mem_icre.1 h1
   obtain ⟨y, hy, ey⟩ := mem_cre.1 h2
   refine .inl (.inr ⟨x, hx, ?_⟩)
   rw [ex, ey] at hp hne
   have hpp : x.p = y.p := hp
   unfold hD1 dg?
   rw [hpp, fe_of hb hy]
   rw [if_neg (fun e => hne e.symm), ← e, ex, ey]
   show some (⟨y.p, x.d, y.d⟩ : Cg) = some ⟨x.p, x.d, y.d⟩
   rw [hpp]
  ·obtain ⟨x, hx, ex⟩ := mem_icre.1 h1
   refine .inl (.inr ⟨x, hx, ?_⟩)
   unfold hD1 dg?
   rw [fe_not (fun y hy => by have := h2 ⟨y.p, zed, y.d⟩ (mem_cre.2 ⟨y, hy, rfl⟩); rw [ex] at this; exact this)]
   rw [if_neg (fun e => hva x hx e.symm), ← e, hk, ex]; rfl
  ·obtain ⟨y, hy, ey⟩ := mem_cre.1 h1
   refine .inr ⟨y, hy, ?_⟩
   unfold hD2
   rw [fe_not (fun x hx => by have := h2 ⟨x.p, x.d, zed⟩ (mem_icre.2 ⟨x, hx, rfl⟩); rw [ey] at this; exact this)]
   rw [← e, hk, ey]; rfl
 ·rintro ((h | ⟨x, hx, e⟩) | ⟨y, hy, e⟩)
  ·cases h
  ·unfold hD1 at e
   split at e
   ·cases e
   rename_i hne
   injection e with e
   unfold dg? at e hne
   cases hf : fe b x.p with
   | none =>
     rw [hf] at e hne
     refine ⟨(⟨x.p, x.d, zed⟩, kp x.p zed), (hside _).2 (.inr (.inl ⟨mem_icre.2 ⟨x, hx, rfl⟩, fun w hw => ?_, rfl⟩)), ?_⟩
     ·obtain ⟨y, hy, ey⟩ := mem_cre.1 hw; rw [ey]; exact fe_none hf y hy
     ·unfold outP; rw [← e]; exact if_neg (hva x hx)
   | some y =>
     rw [hf] at e hne
     refine ⟨(⟨x.p, x.d, zed⟩, ⟨y.p, zed, y.d⟩), (hside _).2 (.inl ⟨mem_icre.2 ⟨x, hx, rfl⟩, mem_cre.2 ⟨y, (fe_some hf).1, rfl⟩, (fe_some hf).2.symm⟩), ?_⟩
     unfold outP; rw [← e]; exact if_neg (fun e => hne e.symm)
  ·unfold hD2 at e
   cases hf : fe a y.p with
   | none =>
     rw [hf] at e; injection e with e
     refine ⟨(kp y.p zed, ⟨y.p, zed, y.d⟩), (hside _).2 (.inr (.inr ⟨mem_cre.2 ⟨y, hy, rfl⟩, fun w hw => ?_, rfl⟩)), ?_⟩
     ·obtain ⟨x, hx, ex⟩ := mem_icre.1 hw; rw [ex]; exact fe_none hf x hx
     ·unfold outP; rw [← e]; exact if_neg (fun e => hvb y hy e.symm)
   | some x => rw [hf] at e; cases e
end Go.Proofs.YtecllfbadciaoaaGreatDoor
namespace Go.Proofs.YtecllfbadciaoaaGreatDoor
open Go.RowKit
def D32 (l : List Int) : Prop := l.length = 32 ∧ ∀ x ∈ l, 0 ≤ x ∧ x < 256
theorem D32.zed : D32 zed := ⟨rfl, fun x hx => by rw [List.eq_of_mem_replicate hx]; omega⟩
theorem infoD : (Tryz.prog.info? 80).map (·.size) = some 32 := by kernel_rfl
def dgA (d : List Int) : Array Value := (d.map (Value.int .u8)).toArray
theorem getD_mapD (L : List Int) (i : Nat) (h : i < L.length) : (L.map (Value.int .u8))[i]? = some (.int .u8 (L.getD i 0)) := by
 rw [List.getElem?_map, List.getElem?_eq_getElem h, List.getD_eq_getElem?_getD, List.getElem?_eq_getElem h]; rfl
theorem part_byteD (L : List Int) (i : Nat) (h : i < L.length) (w : World) : (part 5 (dgA L) (i * 1)).run Tryz.prog w = .ok (.int .u8 (L.getD i 0)) w := by
 have hu : (underlying 5).run Tryz.prog w = .ok (.int .u8) w := run_underlying Tryz.underlying5 w
 have hg := getD_mapD L i h
 simp [part, isAgg, hu, dgA, hg]
theorem eq_byteD (d : Nat) (a b : Int) (w : World) : (Op.equalIn (d + 1) 5 (.int .u8 a) (.int .u8 b)).run Tryz.prog w = .ok (a == b) w := by
 simp [Op.equalIn, run_underlying Tryz.underlying5]
theorem eq_itemsD (d : Nat) (X Y : List Int) : ∀ (is : List Nat) (w : World), (∀ i ∈ is, i < X.length ∧ i < Y.length) →
 (Op.eqItems (d + 1) 5 1 (dgA X) (dgA Y) is).run Tryz.prog w = .ok (is.all fun i => X.getD i 0 == Y.getD i 0) w
 | [], w, _ => by simp [Op.eqItems]
 | i :: is, w, h => by
   have hi := h i (by simp)
   have ih := eq_itemsD d X Y is w (fun j hj => h j (by simp [hj]))
   simp only [Op.eqItems, Sem.run_bind, part_byteD X i hi.1, part_byteD Y i hi.2, eq_byteD, Result.andThen_ok]
   cases hx : (X.getD i 0 == Y.getD i 0)
   ·rw [List.all_cons, hx]; simp
   ·rw [List.all_cons, hx]; simpa using ih
theorem all_range_eqD (X Y : List Int) (h : X.length = Y.length) : ((List.range X.length).all fun i => X.getD i 0 == Y.getD i 0) = decide (X = Y) := by
 by_cases e : X = Y
 ·subst e; simp
 ·simp only [e, decide_false]
  rw [Bool.eq_false_iff]
  intro ha
  refine e (List.ext_getElem h fun i h1 h2 => ?_)
  have := List.all_eq_true.1 ha i (by simpa using h1)
  simpa [List.getD_eq_getElem?_getD, List.getElem?_eq_getElem h1, List.getElem?_eq_getElem h2] using this
theorem eq_digD (dep : Nat) (X Y : List Int) (hX : X.length = 32) (hY : Y.length = 32) (w : World) : (Op.equalIn (dep + 2) 80 (.agg (dgA X)) (.agg (dgA Y))).run Tryz.prog w = .ok (decide (X = Y)) w := by
 have hc : Tryz.prog.cellsOf 5 = 1 := by kernel_rfl
 obtain ⟨i, hi⟩ : ∃ i, Tryz.prog.info? 5 = some i := Option.isSome_iff_exists.1 (by kernel_rfl)
 have h := run_equalIn_array (P := Tryz.prog) w (dep + 1) (dgA X) (dgA Y) Tryz.underlying80 hi
 rw [hc] at h
 have e := eq_itemsD dep X Y (List.range 32) w (fun j hj => by rw [hX, hY]; simpa using hj)
 have r := all_range_eqD X Y (by omega)
 rw [hX] at r
 rw [r] at e
 rw [e] at h
 exact h
theorem eqlD (X Y : List Int) (hX : X.length = 32) (hY : Y.length = 32) (w : World) :
 (binOp .eql 80 (.agg (X.map (Value.int .u8)).toArray) (.agg (Y.map (Value.int .u8)).toArray)).run Tryz.prog w = .ok (.bool (decide (X = Y))) w := by
 have h : (Op.equalIn 10000 80 (.agg (X.map (Value.int .u8)).toArray) (.agg (Y.map (Value.int .u8)).toArray)).run Tryz.prog w = .ok (decide (X = Y)) w := eq_digD 9998 X Y hX hY w
 simp only [binOp]
 simp [Op.equal, Op.maxDepth, h]
theorem neqD (X Y : List Int) (hX : X.length = 32) (hY : Y.length = 32) (w : World) :
 (binOp .neq 80 (.agg (X.map (Value.int .u8)).toArray) (.agg (Y.map (Value.int .u8)).toArray)).run Tryz.prog w = .ok (.bool (!decide (X = Y))) w := by
 have h : (Op.equalIn 10000 80 (.agg (X.map (Value.int .u8)).toArray) (.agg (Y.map (Value.int .u8)).toArray)).run Tryz.prog w = .ok (decide (X = Y)) w := eq_digD 9998 X Y hX hY w
 simp only [binOp]
 simp [Op.equal, Op.maxDepth, h]
theorem eqlZ (X : List Int) (hX : X.length = 32) (w : World) : (binOp .eql 80 (.agg (X.map (Value.int .u8)).toArray) (.agg #[Value.int .u8 0, Value.int .u8 0, Value.int .u8 0, Value.int .u8 0, Value.int .u8 0, Value.int .u8 0, Value.int .u8 0, Value.int .u8 0, Value.int .u8 0, Value.int .u8 0, Value.int .u8 0, Value.int .u8 0, Value.int .u8 0, Value.int .u8 0, Value.int .u8 0, Value.int .u8 0, Value.int .u8 0, Value.int .u8 0, Value.int .u8 0, Value.int .u8 0, Value.int .u8 0, Value.int .u8 0, Value.int .u8 0, Value.int .u8 0, Value.int .u8 0, Value.int .u8 0, Value.int .u8 0, Value.int .u8 0, Value.int .u8 0, Value.int .u8 0, Value.int .u8 0, Value.int .u8 0])).run Tryz.prog w = .ok (.bool (decide (X = zed))) w := eqlD X zed hX rfl w
theorem neqZ (X : List Int) (hX : X.length = 32) (w : World) : (binOp .neq 80 (.agg (X.map (Value.int .u8)).toArray) (.agg #[Value.int .u8 0, Value.int .u8 0, Value.int .u8 0, Value.int .u8 0, Value.int .u8 0, Value.int .u8 0, Value.int .u8 0, Value.int .u8 0, Value.int .u8 0, Value.int .u8 0, Value.int .u8 0, Value.int .u8 0, Value.int .u8 0, Value.int .u8 0, Value.int .u8 0, Value.int .u8 0, Value.int .u8 0, Value.int .u8 0, Value.int .u8 0, Value.int .u8 0, Value.int .u8 0, Value.int .u8 0, Value.int .u8 0, Value.int .u8 0, Value.int .u8 0, Value.int .u8 0, Value.int .u8 0, Value.int .u8 0, Value.int .u8 0, Value.int .u8 0, Value.int .u8 0, Value.int .u8 0])).run Tryz.prog w = .ok (.bool (!decide (X = zed))) w := neqD X zed hX rfl w
theorem range_row {w : World} {b t : Nat} {fz : Nat × Nat} {cs pre sub post : List Value} {o : Nat} (h : w.heap[b]? = some (.cells cs.toArray t fz)) (e : cs = pre ++ (sub ++ post)) (ho : o = pre.length) : w.rangeAt b o sub := by
 intro j v hv
 have hj := (List.getElem?_eq_some_iff.1 hv).1
 show w.cell? ⟨b, o + j, none⟩ = some v
 rw [cell_of_row w b (o + j) cs.toArray t fz h, e, ho, List.getElem?_toArray, List.getElem?_append_right (by omega), Nat.add_sub_cancel_left, List.getElem?_append_left hj, hv]
theorem info_d {d : List Int} (h : D32 d) : (Tryz.prog.info? 80).map (·.size) = some (d.map (Value.int .u8)).length := by rw [List.length_map, h.1]; exact infoD
theorem setRow_new (w : World) (old cells : Array Value) (t : TypeId) : (w.alloc (.cells old t)).setRow w.heap.size cells = w.alloc (.cells cells t) := by
 unfold World.setRow World.alloc
 congr 1
 apply Array.ext
 ·simp
 ·intro i h1 h2
  rw [Array.getElem_modify]
  by_cases e : w.heap.size = i
  ·subst e; simp
  ·have hi : i < w.heap.size := by simp at h2; omega
   simp [e, Array.getElem_push, hi]
/-! ### structs put together -/
theorem fold_put (off : Nat) : ∀ (vs pre old post : List Value) (k : Nat), off + k = pre.length → old.length = vs.length →
 (vs.zipIdx k).foldl (fun cs (x : Value × Nat) => cs.setIfInBounds (off + x.2) x.1) (pre ++ (old ++ post)).toArray = (pre ++ (vs ++ post)).toArray
 | [], pre, old, post, k, _, ho => by
   have : old = [] := List.eq_nil_of_length_eq_zero ho
   subst this; rfl
 | v :: vs, pre, o :: old, post, k, hk, ho => by
   rw [List.zipIdx_cons, List.foldl_cons]
   have h1 : (pre ++ (o :: old ++ post)).toArray.setIfInBounds (off + k) v = ((pre ++ [v]) ++ (old ++ post)).toArray := by
    rw [List.setIfInBounds_toArray, hk, List.cons_append, List.set_append_right _ _ (Nat.le_refl _), Nat.sub_self, List.set_cons_zero, List.append_assoc]; rfl
   show List.foldl _ ((pre ++ (o :: old ++ post)).toArray.setIfInBounds (off + k) v) _ = _
   rw [h1, fold_put off vs (pre ++ [v]) old post (k + 1) (by rw [List.length_append]; show off + (k + 1) = pre.length + 1; omega) (by simpa using ho), List.append_assoc]; rfl
theorem fill_put {place : Nat → Option (Nat × Nat)} {i off sz : Nat} {v : Value} {rest : List (Nat × Value)} (vs pre old post : List Value) (hp : place i = some (off, sz)) (hv : v.cells = vs.toArray) (hl : vs.length = sz) (ho : off = pre.length) (hold : old.length = sz) :
 Instr.fill place (pre ++ (old ++ post)).toArray ((i, v) :: rest) = Instr.fill place (pre ++ (vs ++ post)).toArray rest := by
 rw [Instr.fill, hp]
 show (if v.cells.size ≠ sz || off + v.cells.size > (pre ++ (old ++ post)).toArray.size then none else _) = _
 rw [if_neg (by rw [hv]; simp; omega)]
 congr 1
 rw [hv, ← Array.foldl_toList, Array.toList_zipIdx]
 exact fold_put off vs pre old post 0 (by omega) (by omega)
theorem built_fill {P : Program} {t : TypeId} {fields : Array Field} {z : Value} {places : List (Nat × Nat)} {parts : List (Nat × Value)} (hi : (P.info? t).map (·.zero) = some (some z)) (hu : P.underlying t = some (.struct fields))
 (hp : fields.toList.mapM (fun f => (P.info? f.type).map fun i => (f.offset, i.size)) = some places) : P.built t parts = Instr.fill (places.toArray[·]?) z.cells parts := by
 cases h : P.info? t with
 | none => rw [h] at hi; cases hi
 | some it =>
   rw [h] at hi
   have hz : it.zero = some z := by injection hi
   unfold Program.built
   simp only [h, hu, hz, hp]
theorem zed_cells : zed.map (Value.int .u8) = List.replicate 32 (.int .u8 0) := rfl
theorem str_cells (s : ByteArray) : (Value.string s).cells = [Value.string s].toArray := rfl
theorem slice_one (w : World) (t e : TypeId) (cs : List Value) (ie : TypeInfo) (z : Value) (hu : Tryz.prog.underlying t = some (.slice e)) (hie : Tryz.prog.info? e = some ie) (hz : ie.zero = some z) (hs : ie.size = cs.length) (h0 : 0 < cs.length) (h1 : cs.length ≤ 1000) :
 (Instr.buildSlice t 1 #[(0, .agg cs.toArray)]).run Tryz.prog w = .ok (.slice (some ⟨w.heap.size, 0, none⟩) 1 1) (w.alloc (.cells cs.toArray e)) := by
 refine run_buildSlice w t e 1 _ _ ie z hu hie hz (by rw [hs]; omega) (by rw [hs]; omega) ?_
 obtain ⟨old, hold⟩ : ∃ old : List Value, old = ((Array.range (1 * ie.size)).map (z.cells[· % z.cells.size]!)).toList := ⟨_, rfl⟩
 have hl : old.length = ie.size := by rw [hold]; simp
 have e1 : (Array.range (1 * ie.size)).map (z.cells[· % z.cells.size]!) = ([] ++ (old ++ [])).toArray := by rw [hold, List.nil_append, List.append_nil]
 rw [e1]
 rw [fill_put cs [] old [] (sz := ie.size) (off := 0 * ie.size) rfl rfl hs.symm (by simp) hl]
 simp [Instr.fill]
def enL (x : En) : List Value := Value.string x.p :: x.d.map (Value.int .u8)
def cgL (x : Cg) : List Value := Value.string x.p :: (x.o.map (Value.int .u8) ++ x.n.map (Value.int .u8))
def OkE (x : En) : Prop := D32 x.d
def OkC (x : Cg) : Prop := D32 x.o ∧ D32 x.n
theorem enL_length {x : En} (h : OkE x) : (enL x).length = 33 := by unfold enL; rw [List.length_cons, List.length_map, h.1]
theorem cgL_length {x : Cg} (h : OkC x) : (cgL x).length = 65 := by unfold cgL; rw [List.length_cons, List.length_append, List.length_map, List.length_map, h.1.1, h.2.1]
theorem enL_one (x : En) : ∀ u ∈ enL x, u.oneCell' = true := fun u hu => by
 rcases List.mem_cons.1 hu with rfl | hu
 ·rfl
 ·obtain ⟨i, _, rfl⟩ := List.mem_map.1 hu; rfl
theorem cgL_one (x : Cg) : ∀ u ∈ cgL x, u.oneCell' = true := fun u hu => by
 rcases List.mem_cons.1 hu with rfl | hu
 ·rfl
 ·rcases List.mem_append.1 hu with hu | hu <;> (obtain ⟨i, _, rfl⟩ := List.mem_map.1 hu; rfl)
theorem infoE : (Tryz.prog.info? 82).map (·.size) = some 33 := by kernel_rfl
theorem infoC : (Tryz.prog.info? 86).map (·.size) = some 65 := by kernel_rfl
def CgB (w : World) (b : Nat) (x : Cg) : Prop := w.heap[b]? = some (.cells (cgL x).toArray 86 (0, 0))
def EnB (w : World) (b : Nat) (x : En) : Prop := w.heap[b]? = some (.cells (enL x).toArray 82 (0, 0))
theorem CgB.p {w : World} {b : Nat} {x : Cg} (h : CgB w b x) : w.cell? ⟨b, 0, none⟩ = some (.string x.p) := by rw [cell_of_row w b 0 _ _ _ h]; rfl
theorem CgB.o {w : World} {b : Nat} {x : Cg} (h : CgB w b x) : w.rangeAt b 1 (x.o.map (Value.int .u8)) := range_row (pre := [.string x.p]) h rfl rfl
theorem CgB.n {w : World} {b : Nat} {x : Cg} (h : CgB w b x) (hx : OkC x) : w.rangeAt b 33 (x.n.map (Value.int .u8)) := range_row (pre := .string x.p :: x.o.map (Value.int .u8)) (post := []) h (by simp [cgL]) (by rw [List.length_cons, List.length_map, hx.1.1])
theorem EnB.p {w : World} {b : Nat} {x : En} (h : EnB w b x) : w.cell? ⟨b, 0, none⟩ = some (.string x.p) := by rw [cell_of_row w b 0 _ _ _ h]; rfl
theorem EnB.d {w : World} {b : Nat} {x : En} (h : EnB w b x) : w.rangeAt b 1 (x.d.map (Value.int .u8)) := range_row (pre := [.string x.p]) (post := []) h (by simp [enL]) rfl
theorem CgB.all {w : World} {b : Nat} {x : Cg} (h : CgB w b x) : w.rangeAt b 0 (cgL x) := range_row (pre := []) (post := []) h (by simp) rfl
theorem EnB.all {w : World} {b : Nat} {x : En} (h : EnB w b x) : w.rangeAt b 0 (enL x) := range_row (pre := []) (post := []) h (by simp) rfl
theorem CgB.new (w : World) (x : Cg) : CgB (w.alloc (.cells (cgL x).toArray 86)) w.heap.size x := heap_alloc_new w _
theorem EnB.new (w : World) (x : En) : EnB (w.alloc (.cells (enL x).toArray 82)) w.heap.size x := heap_alloc_new w _
theorem CgB.below {w w' : World} {B b : Nat} {x : Cg} (h : CgB w b x) (hb : Below B w w') (hlt : b < B) : CgB w' b x := (hb.block b hlt).trans h
theorem EnB.below {w w' : World} {B b : Nat} {x : En} (h : EnB w b x) (hb : Below B w w') (hlt : b < B) : EnB w' b x := (hb.block b hlt).trans h
theorem info_e {x : En} (h : OkE x) : (Tryz.prog.info? 82).map (·.size) = some (enL x).length := by rw [enL_length h]; exact infoE
theorem info_c {x : Cg} (h : OkC x) : (Tryz.prog.info? 86).map (·.size) = some (cgL x).length := by rw [cgL_length h]; exact infoC
def zC : List Value := [.string ⟨#[]⟩] ++ (List.replicate 32 (.int .u8 0) ++ List.replicate 32 (.int .u8 0))
def zE : List Value := [.string ⟨#[]⟩] ++ List.replicate 32 (.int .u8 0)
theorem zeroC : (Tryz.prog.info? 86).map (·.zero) = some (some (.agg zC.toArray)) := by kernel_rfl
theorem zeroE : (Tryz.prog.info? 82).map (·.zero) = some (some (.agg zE.toArray)) := by kernel_rfl
theorem buildC (p : ByteArray) (o n : List Int) (ho : o.length = 32) (hn : n.length = 32) (w : World) :
 (Instr.build 86 #[(0, .string p), (1, .agg (o.map (Value.int .u8)).toArray), (2, .agg (n.map (Value.int .u8)).toArray)]).run Tryz.prog w = .ok (.agg (cgL ⟨p, o, n⟩).toArray) w := by
 refine run_build w _ _ _ ?_
 rw [built_fill zeroC Tryz.underlying86 (places := [(0, 1), (1, 32), (33, 32)]) (by kernel_rfl)]
 show Instr.fill _ ([] ++ ([Value.string ⟨#[]⟩] ++ (List.replicate 32 (Value.int .u8 0) ++ List.replicate 32 (Value.int .u8 0)))).toArray [(0, Value.string p), (1, .agg (o.map (Value.int .u8)).toArray), (2, .agg (n.map (Value.int .u8)).toArray)] = _
 rw [fill_put [Value.string p] [] [Value.string ⟨#[]⟩] (List.replicate 32 (Value.int .u8 0) ++ List.replicate 32 (Value.int .u8 0)) (off := 0) (sz := 1) rfl (str_cells p) rfl rfl rfl, List.nil_append]
 rw [fill_put (o.map (Value.int .u8)) [Value.string p] (List.replicate 32 (Value.int .u8 0)) (List.replicate 32 (Value.int .u8 0)) rfl rfl (by simp [ho]) rfl (by simp)]
 rw [show [Value.string p] ++ (o.map (Value.int .u8) ++ List.replicate 32 (Value.int .u8 0)) = (Value.string p :: o.map (Value.int .u8)) ++ (List.replicate 32 (Value.int .u8 0) ++ []) by simp]
 rw [fill_put (n.map (Value.int .u8)) (Value.string p :: o.map (Value.int .u8)) (List.replicate 32 (Value.int .u8 0)) [] rfl rfl (by simp [hn]) (by simp [ho]) (by simp)]
 simp [Instr.fill, cgL]
theorem buildC2 (p : ByteArray) (n : List Int) (hn : n.length = 32) (w : World) :
 (Instr.build 86 #[(0, .string p), (2, .agg (n.map (Value.int .u8)).toArray)]).run Tryz.prog w = .ok (.agg (cgL ⟨p, zed, n⟩).toArray) w := by
 refine run_build w _ _ _ ?_
 rw [built_fill zeroC Tryz.underlying86 (places := [(0, 1), (1, 32), (33, 32)]) (by kernel_rfl)]
 show Instr.fill _ ([] ++ ([Value.string ⟨#[]⟩] ++ (List.replicate 32 (Value.int .u8 0) ++ List.replicate 32 (Value.int .u8 0)))).toArray [(0, Value.string p), (2, .agg (n.map (Value.int .u8)).toArray)] = _
 rw [fill_put [Value.string p] [] [Value.string ⟨#[]⟩] (List.replicate 32 (Value.int .u8 0) ++ List.replicate 32 (Value.int .u8 0)) (off := 0) (sz := 1) rfl (str_cells p) rfl rfl rfl, List.nil_append]
 rw [show [Value.string p] ++ (List.replicate 32 (Value.int .u8 0) ++ List.replicate 32 (Value.int .u8 0)) = (Value.string p :: List.replicate 32 (Value.int .u8 0)) ++ (List.replicate 32 (Value.int .u8 0) ++ []) by simp]
 rw [fill_put (n.map (Value.int .u8)) (Value.string p :: List.replicate 32 (Value.int .u8 0)) (List.replicate 32 (Value.int .u8 0)) [] rfl rfl (by simp [hn]) (by simp) (by simp)]
 simp [Instr.fill, cgL, zed_cells]
theorem buildE (p : ByteArray) (d : List Int) (hd : d.length = 32) (w : World) :
 (Instr.build 82 #[(0, .string p), (1, .agg (d.map (Value.int .u8)).toArray)]).run Tryz.prog w = .ok (.agg (enL ⟨p, d⟩).toArray) w := by
 refine run_build w _ _ _ ?_
 rw [built_fill zeroE Tryz.underlying82 (places := [(0, 1), (1, 32)]) (by kernel_rfl)]
 show Instr.fill _ ([] ++ ([Value.string ⟨#[]⟩] ++ List.replicate 32 (Value.int .u8 0))).toArray [(0, Value.string p), (1, .agg (d.map (Value.int .u8)).toArray)] = _
 rw [fill_put [Value.string p] [] [Value.string ⟨#[]⟩] (List.replicate 32 (Value.int .u8 0)) (off := 0) (sz := 1) rfl (str_cells p) rfl rfl rfl, List.nil_append]
 rw [show [Value.string p] ++ List.replicate 32 (Value.int .u8 0) = [Value.string p] ++ (List.replicate 32 (Value.int .u8 0) ++ []) by simp]
 rw [fill_put (d.map (Value.int .u8)) [Value.string p] (List.replicate 32 (Value.int .u8 0)) [] rfl rfl (by simp [hd]) rfl (by simp)]
 simp [Instr.fill, enL]
theorem sliceC (w : World) (x : Cg) (hx : OkC x) : (Instr.buildSlice 48 1 #[(0, .agg (cgL x).toArray)]).run Tryz.prog w = .ok (.slice (some ⟨w.heap.size, 0, none⟩) 1 1) (w.alloc (.cells (cgL x).toArray 86)) := by
 have h := cgL_length hx
 have hz := zeroC
 have hi := infoC
 cases hie : Tryz.prog.info? 86 with
 | none => rw [hie] at hi; cases hi
 | some ie =>
   rw [hie] at hi hz
   exact slice_one w _ _ _ ie _ Tryz.underlying48 hie (by injection hz) (by rw [h]; injection hi) (by omega) (by omega)
theorem sliceE (w : World) (x : En) (hx : OkE x) : (Instr.buildSlice 29 1 #[(0, .agg (enL x).toArray)]).run Tryz.prog w = .ok (.slice (some ⟨w.heap.size, 0, none⟩) 1 1) (w.alloc (.cells (enL x).toArray 82)) := by
 have h := enL_length hx
 have hz := zeroE
 have hi := infoE
 cases hie : Tryz.prog.info? 82 with
 | none => rw [hie] at hi; cases hi
 | some ie =>
   rw [hie] at hi hz
   exact slice_one w _ _ _ ie _ Tryz.underlying29 hie (by injection hz) (by rw [h]; injection hi) (by omega) (by omega)
theorem idle_any (x : Cg) (w : World) (hx : OkC x) :
 Calls Tryz.prog 89 #[.agg (cgL x).toArray] w fun e w' => e = .returned (.bool (decide (x.o = x.n))) ∧ Below w.heap.size w w' := by
 have HN := zh (CgB.new w x)
 have HB := zh ((Below.refl w.heap.size w).alloc (Nat.le_refl _) (.cells (cgL x).toArray 86))
 have HO := zh (info_d hx.1); have HP := zh (info_d hx.2)
 have he := eqlD x.o x.n hx.1.1 hx.2.1
 have HX := zh hx; clear hx
 go_enter Tryz.func89, Tryz.ntmps89
 go_wp2_with (first
  | (generalize hw0 : World.alloc w _ = w0; have hr : CgB w0 w.heap.size x := (by rw [← hw0]; exact HN.out); have hbb : Below w.heap.size w w0 := (by rw [← hw0]; exact HB.out); have HR := zh hr; have HBB := zh hbb; clear hw0 hr hbb; refine wpList_load_mid rfl 80 _ rfl w.heap.size 1 rfl _ _ HR.out.o Tryz.underlying80 rfl HO.out ?_)
  | (refine wpList_load_mid rfl 80 _ rfl w.heap.size 33 rfl _ _ (HR.out.n HX.out) Tryz.underlying80 rfl HP.out ?_))
 go_ret
 exact ⟨rfl, HBB.out⟩
theorem needsFile_any (x : Cg) (w : World) (hx : OkC x) :
 Calls Tryz.prog 50 #[.agg (cgL x).toArray] w fun e w' => e = .returned (.bool (needB x)) ∧ Below w.heap.size w w' := by
 have HN := zh (CgB.new w x)
 have HB := zh ((Below.refl w.heap.size w).alloc (Nat.le_refl _) (.cells (cgL x).toArray 86))
 have HO := zh (info_d hx.1)
 have he := neqZ x.o hx.1.1
 have HX := zh hx; clear hx
 go_enter Tryz.func50, Tryz.ntmps50
 go_wp2_with (first
  | (generalize hw0 : World.alloc w _ = w0; have hr : CgB w0 w.heap.size x := (by rw [← hw0]; exact HN.out); have hbb : Below w.heap.size w w0 := (by rw [← hw0]; exact HB.out); have HR := zh hr; have HBB := zh hbb; clear hw0 hr hbb; refine wpList_load_mid rfl 80 _ rfl w.heap.size 1 rfl _ _ HR.out.o Tryz.underlying80 rfl HO.out ?_))
 go_ret
 exact ⟨by unfold needB; simp, HBB.out⟩
theorem entryPath_any (x : En) (w : World) :
 Calls Tryz.prog 84 #[.agg (enL x).toArray] w fun e w' => e = .returned (.string x.p) ∧ Below w.heap.size w w' := by
 have hr := (EnB.new w x).p
 have HB := zh ((Below.refl w.heap.size w).alloc (Nat.le_refl _) (.cells (enL x).toArray 82))
 go_enter Tryz.func84, Tryz.ntmps84
 go_wp2_with fail
 go_ret
 exact ⟨rfl, HB.out⟩
theorem changePath_any (x : Cg) (w : World) :
 Calls Tryz.prog 87 #[.agg (cgL x).toArray] w fun e w' => e = .returned (.string x.p) ∧ Below w.heap.size w w' := by
 have hr := (CgB.new w x).p
 have HB := zh ((Below.refl w.heap.size w).alloc (Nat.le_refl _) (.cells (cgL x).toArray 86))
 go_enter Tryz.func87, Tryz.ntmps87
 go_wp2_with fail
 go_ret
 exact ⟨rfl, HB.out⟩
end Go.Proofs.YtecllfbadciaoaaGreatDoor
namespace Go.Proofs.YtecllfbadciaoaaGreatDoor
open Go
def slB : ByteArray := ⟨#[47]⟩
def seg (s : ByteArray) : List ByteArray := Lib.splitB slB 0 (Lib.countB s slB) s
theorem seg_miss (s : ByteArray) (h : Lib.indexB s slB = -1) : seg s = [s] := Lib.splitB_miss slB 0 _ s h
theorem seg_hit (s : ByteArray) (i : Nat) (h : Lib.indexB s slB = i) : seg s = s.extract 0 i :: seg (s.extract (i + 1) s.size) := by
 unfold seg
 rw [Lib.countB_hit s slB i (by decide) h, Nat.add_comm 1, Lib.splitB_hit slB 0 _ s i h]
 rfl
def goodB (x : ByteArray) : Bool := !(x.toList == []) && !(x.toList == [46]) && !(x.toList == [46, 46])
def pathB (s : ByteArray) : Bool := decide (s.size ≤ 200) && decide (Lib.indexByte s.data.toList 0 < 0) && (seg s).all goodB
end Go.Proofs.YtecllfbadciaoaaGreatDoor
namespace Go.Proofs.YtecllfbadciaoaaGreatDoor
open Go.RowKit
theorem indexByteLite_anyP (s : ByteArray) (c : Int) (w : World) :
 Calls Tryz.prog 126 #[.string s, .int .u8 c] w fun e w' => e = .returned (.int .i64 (Lib.indexByte s.data.toList c.toNat.toUInt8)) ∧ w = w' := by
 go_enter Tryz.func126, Tryz.ntmps126
 go_wp2
 rw [run_callFunc_extern Tryz.func141 (by kernel_rfl) (by kernel_rfl) (by kernel_rfl) (e := Extern.BytealgIndexByte.indexByte) (by kernel_rfl), Lib.run_indexByteString]
 simp only [Result.andThen]
 rw [Oper.upon_value]
 go_wp2
 go_ret
 exact ⟨rfl, rfl⟩
theorem indexByte_anyP (s : ByteArray) (c : Int) (w : World) :
 Calls Tryz.prog 106 #[.string s, .int .u8 c] w fun e w' => e = .returned (.int .i64 (Lib.indexByte s.data.toList c.toNat.toUInt8)) ∧ w = w' := by
 go_enter Tryz.func106, Tryz.ntmps106
 go_wp2_with (go_at_call 126; refine (indexByteLite_anyP _ _ _).mono ?_; rintro e w' ⟨rfl, rfl⟩)
 go_ret
 exact ⟨rfl, rfl⟩
theorem indexB_one (s : ByteArray) : Lib.indexB s slB = Lib.indexByte s.data.toList 47 := by
 show Lib.index s.data.toList [47] = _
 exact Lib.index_one _ _
theorem indexLite_anyP (s : ByteArray) (w : World) :
 Calls Tryz.prog 131 #[.string s, .string slB] w fun e w' => e = .returned (.int .i64 (Lib.indexB s slB)) ∧ w = w' := by
 have hsz : slB.size = 1 := rfl
 rw [indexB_one]
 by_cases h : (slB.toList == s.toList) = true
 ·have hl : s.data.toList = [47] := by rw [beq_iff_eq, Lib.toList_data, Lib.toList_data] at h; exact h.symm
  have HI : Hid (Lib.indexByte s.data.toList 47 = 0) := by show _ = _; rw [hl]; rfl
  clear hl
  go_enter Tryz.func131, Tryz.ntmps131
  go_wp2_with fail
  go_ret
  exact ⟨by rw [HI.out]; rfl, rfl⟩
 ·have h : (slB.toList == s.toList) = false := by simpa using h
  go_enter Tryz.func131, Tryz.ntmps131
  go_wp2_with (go_at_call 126; refine (indexByteLite_anyP _ _ _).mono ?_; rintro e w' ⟨rfl, rfl⟩)
  go_ret
  exact ⟨rfl, rfl⟩
theorem index_anyP (s : ByteArray) (w : World) :
 Calls Tryz.prog 129 #[.string s, .string slB] w fun e w' => e = .returned (.int .i64 (Lib.indexB s slB)) ∧ w = w' := by
 go_enter Tryz.func129, Tryz.ntmps129
 go_wp2_with (go_at_call 131; refine (indexLite_anyP _ _).mono ?_; rintro e w' ⟨rfl, rfl⟩)
 go_ret
 exact ⟨rfl, rfl⟩
theorem splitSeqIn_any (s : ByteArray) (w : World) :
 Calls Tryz.prog 153 #[.string s, .string slB, .int .i64 0] w fun e w' => e = .returned (.func (.func 159) #[] #[.pointer (some ⟨w.heap.size + 1, 0, none⟩), .pointer (some ⟨w.heap.size, 0, none⟩), .pointer (some ⟨w.heap.size + 2, 0, none⟩)]) ∧
  w' = ((w.alloc (.cells #[.string s] 9)).alloc (.cells #[.string slB] 9)).alloc (.cells #[.int .i64 0] 3) := by
 go_enter Tryz.func153, Tryz.ntmps153
 go_wp2
 go_ret
 exact ⟨rfl, rfl⟩
theorem splitSeq_any (s : ByteArray) (w : World) :
 Calls Tryz.prog 136 #[.string s, .string slB] w fun e w' => e = .returned (.func (.func 159) #[] #[.pointer (some ⟨w.heap.size + 1, 0, none⟩), .pointer (some ⟨w.heap.size, 0, none⟩), .pointer (some ⟨w.heap.size + 2, 0, none⟩)]) ∧
  w' = ((w.alloc (.cells #[.string s] 9)).alloc (.cells #[.string slB] 9)).alloc (.cells #[.int .i64 0] 3) := by
 go_enter Tryz.func136, Tryz.ntmps136
 go_wp2_with (go_at_call 153; refine (splitSeqIn_any _ _).mono ?_; rintro e w' ⟨rfl, rfl⟩)
 go_ret
 exact ⟨rfl, rfl⟩
end Go.Proofs.YtecllfbadciaoaaGreatDoor
