/-
  Versions: numbers of any length, by their keys. Plain mathematics.
-/
import Derived.Test.YtceeilojcifgeaaGreatDoorVerR
namespace Go.Proofs.YtceeilojcifgeaaGreatDoor
open Go.RowKit

/-- one or more digits, the first one not 0 -/
def Nz (v : BL) : Prop := (∀ c ∈ v, isD c = true) ∧ ∃ c r, v = c :: r ∧ c ≠ 48
theorem isD_ge {c : UInt8} (h : isD c = true) : 48 ≤ c.toNat := ((isD_iff c).1 h).1
theorem Nz.zs {v : BL} (h : Nz v) : zs v = v := by
  obtain ⟨_, c, r, rfl, hc⟩ := h
  unfold Go.Proofs.YtceeilojcifgeaaGreatDoor.zs; rw [List.dropWhile_cons, if_neg (by simp [hc])]
theorem zs_zeros (z : Nat) (v : BL) : zs (List.replicate z 48 ++ v) = zs v := by
  induction z with
  | zero => rfl
  | succ z ih => rw [List.replicate_succ, List.cons_append]; unfold zs at ih ⊢; rw [List.dropWhile_cons, if_pos (by rfl), ih]
theorem num_zeros (z : Nat) (v : BL) : num (List.replicate z 48 ++ v) = num v := by unfold num; rw [zs_zeros]
theorem Nz.snoc {v : BL} (h : Nz v) (d : UInt8) (hd : isD d = true) : Nz (v ++ [d]) := by
  obtain ⟨h1, c, r, rfl, hc⟩ := h
  exact ⟨fun x hx => by rcases List.mem_append.1 hx with hx | hx; exact h1 x hx; rw [List.mem_singleton.1 hx]; exact hd, c, r ++ [d], rfl, hc⟩
theorem zeros_dig {z : Nat} {v : BL} (h : Nz v) : ∀ c ∈ List.replicate z 48 ++ v, isD c = true := by
  intro c hc
  rcases List.mem_append.1 hc with hc | hc
  · rw [(List.mem_replicate.1 hc).2]; decide
  · exact h.1 c hc
theorem dw_all {d : BL} (h : ∀ c ∈ d, isD c = true) (t : BL) (ht : ∀ c r, t = c :: r → isD c = false) : (d ++ t).takeWhile isD = d ∧ (d ++ t).dropWhile isD = t := tw_app isD d t h ht
theorem dotS_digits {d : BL} (h : ∀ c ∈ d, isD c = true) (hne : d ≠ []) : dotS d [] = some (dz (num d)) := by
  obtain ⟨e1, e2⟩ := dw_all h [] (fun c r h => by cases h)
  rw [List.append_nil] at e1 e2
  rw [dotS_2 (by rw [e1]; exact hne) e2, e1]; rfl
theorem keyO1 {l : BL} (h : l.length ≤ 64) : keyO 1 l = semS l := by unfold keyO; rw [if_neg (by omega)]; rfl
theorem keyO2 {l : BL} (h : l.length ≤ 64) : keyO 2 l = debS l := by unfold keyO; rw [if_neg (by omega)]; rfl
theorem keyO3 {l : BL} (h : l.length ≤ 64) : keyO 3 l = dotS l [] := by unfold keyO; rw [if_neg (by omega)]; rfl
theorem keyR_some {s : Int} {l k : BL} (hs : schB s = true) (h : keyO s l = some k) : keyR s l = (k, 0) := by unfold keyR; rw [if_pos hs, h]
theorem keyR_none {s : Int} {l : BL} (hs : schB s = true) (h : keyO s l = none) : keyR s l = ([], 1) := by unfold keyR; rw [if_pos hs, h]
theorem keyR3 {d : BL} (h : ∀ c ∈ d, isD c = true) (hne : d ≠ []) (hl : d.length ≤ 64) : keyR 3 d = (dz (num d), 0) := by
  exact keyR_some rfl ((keyO3 hl).trans (dotS_digits h hne))
theorem Nz.dznum {v : BL} (h : Nz v) : dz (num v) = num v := by
  rw [dz_num v (fun c hc => isD_ge (h.1 c hc)), h.zs]
  obtain ⟨_, c, r, rfl, _⟩ := h
  rw [if_neg (by simp)]
theorem lx_num {a b : BL} (la : a.length ≤ 255) (lb : b.length ≤ 255) : lx (num a) (num b) = nord a b := by
  have := num_app a b [] [] la lb
  rw [List.append_nil, List.append_nil] at this
  rw [this]; unfold fst0; split
  · rename_i h; rw [h]; rfl
  · rfl
theorem nord_longer {v : BL} (h : Nz v) (d : UInt8) (hd : isD d = true) : nord v (v ++ [d]) = -1 := by
  unfold nord; rw [h.zs, (h.snoc d hd).zs, if_pos (by simp)]
theorem cmp_same3 {v : BL} (h : Nz v) (z : Nat) (hl : v.length + z ≤ 60) : cmpR 3 v (List.replicate z 48 ++ v) = (0, 0) := by
  have hne : v ≠ [] := by obtain ⟨_, c, r, rfl, _⟩ := h; simp
  unfold cmpR
  rw [keyR3 h.1 hne (by omega), keyR3 (zeros_dig h) (by simp [hne]) (by simp; omega), num_zeros]
  simp [lx_refl]
theorem cmp_more3 {v : BL} (h : Nz v) (z : Nat) (hl : v.length + z ≤ 60) : cmpR 3 (List.replicate z 48 ++ v) (v ++ [48]) = (-1, 0) := by
  have hne : v ≠ [] := by obtain ⟨_, c, r, rfl, _⟩ := h; simp
  have h2 := h.snoc 48 (by decide)
  unfold cmpR
  rw [keyR3 h2.1 (by simp) (by simp; omega), keyR3 (zeros_dig h) (by simp [hne]) (by simp; omega), num_zeros, h.dznum, h2.dznum]
  simp only [ne_eq, not_true_eq_false, if_false]
  rw [lx_num (by omega) (by simp; omega), nord_longer h 48 (by decide)]
theorem lastK_none {c : UInt8} {l : BL} (h : ∀ x ∈ l, x ≠ c) : ∀ k, k ≤ l.length → lastK c l k = -1
  | 0, _ => rfl
  | k + 1, hk => by
    rw [lastK_miss, lastK_none h k (by omega)]
    rw [List.getD_eq_getElem?_getD, List.getElem?_eq_getElem (by omega)]
    exact h _ (List.getElem_mem _)
theorem part_a : part6 [97] = some [97, 2, 0, 2] := by decide +kernel
theorem part_da {d : BL} (h : ∀ c ∈ d, isD c = true) (hne : d ≠ []) : part6 (d ++ [97]) = some ([] ++ 2 :: (num d ++ [97, 2, 0, 2])) := by
  obtain ⟨e1, e2⟩ := dw_all h [97] (fun c r h => by injection h with h _; subst h; decide)
  obtain ⟨c, r, rfl⟩ : ∃ c r, d = c :: r := by cases d with | nil => exact absurd rfl hne | cons c r => exact ⟨c, r, rfl⟩
  have hc : notD c = false := by unfold notD; rw [h c (by simp)]; rfl
  have t1 : (c :: r ++ [97]).takeWhile notD = [] := by rw [List.cons_append, List.takeWhile_cons, hc]; rfl
  have t2 : (c :: r ++ [97]).dropWhile notD = c :: r ++ [97] := by rw [List.cons_append, List.dropWhile_cons, hc]; rfl
  have hr : rest6 (c :: r ++ [97]) = [97] := by unfold rest6; rw [t2, e2]
  have hd : dig6 (c :: r ++ [97]) = c :: r := by unfold dig6; rw [t2, e1]
  rw [part6_on (p := []) (by rw [t1]; rfl) (by rw [hr]; simp), hr, hd, part_a]; rfl
theorem part_nil : part6 [] = some [2, 0, 2] := by decide +kernel
theorem keyR2 {d : BL} (h : ∀ c ∈ d, isD c = true) (hne : d ≠ []) (hl : d.length ≤ 62) : keyR 2 (d ++ [97]) = (((num [] ++ ([] ++ 2 :: (num d ++ [97, 2, 0, 2]))) ++ [2, 0, 2]), 0) := by
  obtain ⟨e1, e2⟩ := dw_all h [97] (fun c r h => by injection h with h _; subst h; decide)
  have hE : hasE (d ++ [97]) = false := by unfold hasE; rw [e1, e2]; simp [skB]
  have hL : epL (d ++ [97]) = d ++ [97] := by unfold epL; rw [hE]; rfl
  have hD : epD (d ++ [97]) = [] := by unfold epD; rw [hE]; rfl
  have hI : lastI 45 (d ++ [97]) = -1 := by
    refine lastK_none (fun x hx => ?_) _ (Nat.le_refl _)
    rcases List.mem_append.1 hx with hx | hx
    · rintro rfl; have := h _ hx; exact absurd this (by decide)
    · rw [List.mem_singleton.1 hx]; decide
  have hS : debS (d ++ [97]) = some ((num [] ++ ([] ++ 2 :: (num d ++ [97, 2, 0, 2]))) ++ [2, 0, 2]) := by
    unfold debS
    rw [hL, hD]
    have hU : upsD (d ++ [97]) = d ++ [97] := by unfold upsD; rw [hI]; rfl
    have hV : revD (d ++ [97]) = [] := by unfold revD; rw [hI]; rfl
    rw [hU, hV, hI, if_neg (by omega)]
    obtain ⟨c, r, rfl⟩ : ∃ c r, d = c :: r := by cases d with | nil => exact absurd rfl hne | cons c r => exact ⟨c, r, rfl⟩
    unfold debP
    simp only [List.cons_append, h c (by simp), if_true]
    have p1 : prtS (c :: (r ++ [97])) (num []) = some (num [] ++ ([] ++ 2 :: (num (c :: r) ++ [97, 2, 0, 2]))) := by
      have := part_da h hne
      rw [List.cons_append] at this
      unfold prtS; rw [this]; rfl
    rw [p1]
    simp only []
    unfold prtS; rw [part_nil]; simp
  exact keyR_some rfl ((keyO2 (by simp; omega)).trans hS)
theorem cmp_same2 {v : BL} (h : Nz v) (z : Nat) (hl : v.length + z ≤ 60) : cmpR 2 ((List.replicate z 48 ++ v) ++ [97]) (v ++ [97]) = (0, 0) := by
  have hne : v ≠ [] := by obtain ⟨_, c, r, rfl, _⟩ := h; simp
  unfold cmpR
  rw [keyR2 h.1 hne (by omega), keyR2 (zeros_dig h) (by simp [hne]) (by simp; omega), num_zeros]
  simp [lx_refl]
theorem pnum_0 (k : BL) : pnumS [48] k = some ([], k ++ num [48]) := rfl
theorem pnum_00 (k : BL) : pnumS [48, 46, 48] k = some ([46, 48], k ++ num [48]) := rfl
theorem keyR1 {v : BL} (h : Nz v) (hl : v.length ≤ 58) : keyR 1 (v ++ [46, 48, 46, 48]) = (((num v ++ num [48]) ++ num [48]) ++ [2], 0) := by
  obtain ⟨e1, e2⟩ := dw_all h.1 [46, 48, 46, 48] (fun c r h => by injection h with h _; subst h; decide)
  have hp : plainN v = true := by
    obtain ⟨_, c, r, rfl, hc⟩ := h
    unfold plainN; rw [Bool.or_eq_true]; right
    simp only [bne_iff_ne]; intro e; exact hc (UInt8.toNat_inj.1 (by show c.toNat = 48; omega))
  have h1 : pnumS (v ++ [46, 48, 46, 48]) [] = some ([46, 48, 46, 48], num v) := by unfold pnumS; rw [e1, e2, hp]; rfl
  have hS : semS (v ++ [46, 48, 46, 48]) = some (((num v ++ num [48]) ++ num [48]) ++ [2]) := by
    unfold semS; rw [h1]; rfl
  exact keyR_some rfl ((keyO1 (by simp; omega)).trans hS)
theorem cmp_more1 {v : BL} (h : Nz v) (hl : v.length ≤ 50) : cmpR 1 (v ++ [46, 48, 46, 48]) (v ++ [48, 46, 48, 46, 48]) = (-1, 0) := by
  have h2 := h.snoc 48 (by decide)
  have e : v ++ [48, 46, 48, 46, 48] = (v ++ [48]) ++ [46, 48, 46, 48] := by simp
  unfold cmpR
  rw [e, keyR1 h (by omega), keyR1 h2 (by simp; omega)]
  simp only [ne_eq, not_true_eq_false, if_false]
  rw [List.append_assoc, List.append_assoc, List.append_assoc, List.append_assoc, num_app _ _ _ _ (by omega) (by simp; omega), nord_longer h 48 (by decide)]; rfl
end Go.Proofs.YtceeilojcifgeaaGreatDoor
