/-
  Envelopes: what signers make is valid, and every signature in it verifies (plain).
-/
import Derived.Test.YtjeiiabpdoelpaaGreatDoorEnvP
namespace Go.Proofs.YtjeiiabpdoelpaaGreatDoor
open Go.RowKit Go.Proofs.YtjeiiabpdoelpaaGreatDoor.One
def layW : ByteArray := ⟨#[108, 97, 121, 111, 117, 116]⟩
def recW : ByteArray := ⟨#[114, 101, 99, 111, 114, 100]⟩
theorem insP_mem {L : List Pg} {p z : Pg} (h : z ∈ insP L p) : z ∈ L ∨ z = p := by
 unfold insP at h
 rcases List.mem_append.1 h with h | h
 ·exact .inl ((List.takeWhile_sublist _).subset h)
 ·rcases List.mem_cons.1 h with h | h
  ·exact .inr h
  ·exact .inl ((List.dropWhile_sublist _).subset h)
theorem insP_len (L : List Pg) (p : Pg) : (insP L p).length = L.length + 1 := by
 unfold insP
 have := congrArg List.length (List.takeWhile_append_dropWhile (p := fun y => dls (idP y) (idP p)) (l := L))
 rw [List.length_append] at this
 rw [List.length_append, List.length_cons]; omega
theorem vsB_of {L : List Pg} (hs : ∀ z ∈ L, shpP z = true) (hq : srtP L) : vsB L = true := vs_yes rfl fun j hj => by
 obtain ⟨x, hx⟩ : ∃ x, L[j]? = some x := ⟨L[j], List.getElem?_eq_getElem hj⟩
 have h1 := hs x (List.mem_of_getElem? hx)
 unfold vsAt
 cases j with
 | zero => simp only [hx, h1, Bool.and_true]
 | succ j =>
   obtain ⟨y, hy⟩ : ∃ y, L[j]? = some y := ⟨L[j]'(by omega), List.getElem?_eq_getElem _⟩
   simp only [hx, hy, h1, srtP_at hq (Nat.lt_succ_self j) hy hx, Bool.and_true]
theorem vsB_shp {L : List Pg} (h : vsB L = true) : ∀ z ∈ L, shpP z = true := fun z hz => by
 obtain ⟨j, hj⟩ := List.mem_iff_getElem?.1 hz
 unfold vsB at h
 have h1 := List.all_eq_true.1 h j (List.mem_range.2 (List.getElem?_eq_some_iff.1 hj).1)
 unfold vsAt at h1
 simp only [hj, Bool.and_eq_true] at h1
 exact h1.1
theorem insP_cons_lt {y p : Pg} {t : List Pg} (h : dls (idP y) (idP p) = true) : insP (y :: t) p = y :: insP t p := by unfold insP; simp [List.takeWhile_cons, List.dropWhile_cons, h]
theorem insP_cons_ge {y p : Pg} {t : List Pg} (h : dls (idP y) (idP p) = false) : insP (y :: t) p = p :: y :: t := by unfold insP; simp [List.takeWhile_cons, List.dropWhile_cons, h]
theorem dls_or {a b : List Int} (h : dls a b = false) (hn : a ≠ b) : dls b a = true := by
 cases hb : dls b a with
 | true => rfl
 | false => exact absurd (dls_tri h hb) hn
theorem hasP_cons {y p : Pg} {t : List Pg} (h : hasP (y :: t) p = false) : idP y ≠ idP p ∧ hasP t p = false := by
 unfold hasP at h ⊢
 rw [List.any_cons, Bool.or_eq_false_iff] at h
 exact ⟨by simpa using h.1, h.2⟩
theorem insP_srt : ∀ {L : List Pg} {p : Pg}, srtP L → hasP L p = false → srtP (insP L p)
 | [], p, _, _ => by show srtP [p]; unfold srtP; exact List.pairwise_singleton _ _
 | y :: t, p, hs, hh => by
   have hs' : (∀ z ∈ t, dls (idP y) (idP z) = true) ∧ srtP t := List.pairwise_cons.1 hs
   have hh' := hasP_cons hh
   cases h : dls (idP y) (idP p) with
   | true =>
     rw [insP_cons_lt h]
     refine List.pairwise_cons.2 ⟨fun z hz => ?_, insP_srt hs'.2 hh'.2⟩
     rcases insP_mem hz with hz | rfl
     ·exact hs'.1 z hz
     ·exact h
   | false =>
     rw [insP_cons_ge h]
     refine List.pairwise_cons.2 ⟨fun z hz => ?_, hs⟩
     rcases List.mem_cons.1 hz with rfl | hz
     ·exact dls_or h hh'.1
     ·exact dls_trans (dls_or h hh'.1) (hs'.1 z hz)
theorem vldB_iff {t : ByteArray} {b : List UInt8} {L : List Pg} : vldB t b L = true ↔ nmB t.data.toList = true ∧ b.length ≤ 32768 ∧ L.length ≤ 8 ∧ vsB L = true := by
 unfold vldB; simp only [Bool.and_eq_true, decide_eq_true_eq]
structure GdP (t : ByteArray) (b : List UInt8) (L : List Pg) : Prop where
 v : vldB t b L = true
 s : ∀ z ∈ L, vfyP (msgB t b) z = true
theorem GdP.nil {b : List UInt8} (hb : b.length ≤ 200) : GdP recW b [] := ⟨vldB_iff.2 ⟨by decide, by omega, Nat.zero_le _, rfl⟩, fun z hz => by cases hz⟩
theorem sgE_zero {h n : Int} (e : sgE h n = 0) : ∃ k leaf : Nat, h = (k : Int) ∧ n = (leaf : Int) ∧ k ≤ 6 ∧ leaf < 2 ^ k := by
 unfold sgE at e
 split at e
 ·exact absurd e (by decide)
 ·rename_i h1
  split at e
  ·exact absurd e (by decide)
  ·rename_i h2
   have h3 : hgtB h = true := by
    cases hb : hgtB h with
    | true => rfl
    | false => exact absurd (Or.inl hb) h1
   have h4 : ¬ n < 0 := fun e => h1 (.inr e)
   unfold hgtB at h3
   have h5 := of_decide_eq_true h3
   refine ⟨h.toNat, n.toNat, by omega, by omega, by omega, ?_⟩
   unfold lvN at h2
   omega
theorem sgn_good {t : ByteArray} {b : List UInt8} {L : List Pg} {x : List Int} {h n : Int} (h0 : sgnE t b L x h n = 0) : vldB t b L = true ∧ sgE h n = 0 ∧ hasP L (newP x h n (msgB t b)) = false ∧ L.length ≠ 8 := by
 unfold sgnE at h0
 split at h0
 ·exact absurd h0 (by decide)
 ·rename_i h1
  split at h0
  ·rename_i h2; exact absurd h0 h2
  ·rename_i h2
   split at h0
   ·exact absurd h0 (by decide)
   ·rename_i h3
    split at h0
    ·exact absurd h0 (by decide)
    ·rename_i h4
     exact ⟨by simpa using h1, by simpa using h2, by simpa using h3, h4⟩
theorem sgnV_E (t : ByteArray) (b : List UInt8) (L : List Pg) (x : List Int) (h n : Int) : (sgnV t b L x h n).E = sgnE t b L x h n := by
 unfold sgnV; split
 ·rename_i h; exact h.symm
 ·rfl
theorem GdP.ins {t : ByteArray} {b : List UInt8} {L : List Pg} {x : List Int} {h n : Int} (hg : GdP t b L) (h0 : sgnE t b L x h n = 0) : GdP t b (insP L (newP x h n (msgB t b))) := by
 obtain ⟨hv, hs, hh, h8⟩ := sgn_good h0
 obtain ⟨k, leaf, rfl, rfl, hk, hl⟩ := sgE_zero hs
 obtain ⟨v1, v2, v3, v4⟩ := vldB_iff.1 hv
 refine ⟨vldB_iff.2 ⟨v1, v2, by rw [insP_len]; omega, vsB_of (fun z hz => ?_) (insP_srt (vsB_srt v4) hh)⟩, fun z hz => ?_⟩
 ·rcases insP_mem hz with hz | rfl
  ·exact vsB_shp v4 z hz
  ·exact newP_shp hk hl
 ·rcases insP_mem hz with hz | rfl
  ·exact hg.s z hz
  ·exact newP_vfy (msgB_ok _ _) hk hl
theorem GdP.sgr {t : ByteArray} {b : List UInt8} {L : List Pg} (hg : GdP t b L) : sgrB t b L = L.map idP := by
 unfold sgrB; rw [if_pos hg.v]; unfold idsB
 rw [List.filter_eq_self.2 hg.s]
theorem srtP_ids {L M : List Pg} (h : L.map idP = M.map idP) (hs : srtP L) : srtP M := by
 have h1 : (L.map idP).Pairwise (fun a b => dls a b = true) := List.pairwise_map.2 hs
 rw [h] at h1
 exact List.pairwise_map.1 h1
theorem vldB_chain {t : ByteArray} {b : List UInt8} {L : List Pg} {k : Nat} {z z' : Pg} (hz : L[k]? = some z) (hi : idP z' = idP z) (hp : shpP z' = shpP z) (hv : vldB t b L = true) : vldB t b (L.set k z') = true := by
 obtain ⟨v1, v2, v3, v4⟩ := vldB_iff.1 hv
 refine vldB_iff.2 ⟨v1, v2, by rw [List.length_set]; exact v3, vsB_of (fun y hy => ?_) (srtP_ids ?_ (vsB_srt v4))⟩
 ·rcases List.mem_or_eq_of_mem_set hy with hy | rfl
  ·exact vsB_shp v4 y hy
  ·rw [hp]; exact vsB_shp v4 z (List.mem_of_getElem? hz)
 ·rw [List.map_set, hi]
  refine List.ext_getElem? fun j => ?_
  rw [List.getElem?_set, List.getElem?_map]
  split
  ·rename_i e; subst e
   rw [hz]; simp [(List.getElem?_eq_some_iff.1 hz).1]
  ·rfl
def spz (kk : Int) : Int := (kk.tmod 6 + 6).tmod 6
end Go.Proofs.YtjeiiabpdoelpaaGreatDoor
