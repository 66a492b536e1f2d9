/-
  Envelopes: what Join answers (plain); the reference's find with the place that it finds.
-/
import Derived.Test.YtcligodahogpkaaGreatDoorEnvRm
set_option maxRecDepth 100000
set_option maxHeartbeats 8000000
namespace Go.Proofs.YtcligodahogpkaaGreatDoor
open Go.RowKit Go.Proofs.YtcligodahogpkaaGreatDoor.One
def jnS (d : List Int) (L : List Pg) (x : Pg) : List Pg :=
 if pM L x = false then nA L x else L.map fun z => if idP z = idP x ∧ kT d z = false ∧ kT d x = true then x else z
def jnL (d : List Int) (L M : List Pg) : List Pg := M.foldl (jnS d) L
theorem xX {L : List Pg} {x z : Pg} (hz : z ∈ L) (e : idP z = idP x) : pM L x = true := xY hz e
theorem BC {L : List Pg} (hs : lZ L) {i j : Nat} {x y : Pg} (hx : L[i]? = some x) (hy : L[j]? = some y) (hij : i ≠ j) : idP x ≠ idP y := by
 rcases Nat.lt_or_gt_of_ne hij with h | h
 ·exact qV (mC hs h hx hy)
 ·exact fun e => qV (mC hs h hy hx) e.symm
theorem LG {d : List Int} {L : List Pg} {x z : Pg} {k : Nat} (hs : lZ L) (hz : L[k]? = some z) (he : idP z = idP x) (h1 : kT d z = false) (h2 : kT d x = true) : jnS d L x = L.set k x := by
 unfold jnS
 rw [if_neg (by rw [xX (List.mem_of_getElem? hz) he]; simp)]
 refine List.ext_getElem? fun j => ?_
 rw [List.getElem?_map, List.getElem?_set]
 have hk := (List.getElem?_eq_some_iff.1 hz).1
 by_cases hj : k = j
 ·subst hj
  rw [if_pos rfl, hz]; simp [he, h1, h2, hk]
 ·rw [if_neg hj]
  cases hy : L[j]? with
  | none => rfl
  | some y =>
    have := BC hs hz hy hj
    simp only [Option.map_some, he] at this ⊢
    rw [if_neg (fun h => this h.1.symm)]
theorem xT {d : List Int} {L : List Pg} {x z : Pg} {k : Nat} (hs : lZ L) (hz : L[k]? = some z) (he : idP z = idP x) (h : kT d z = true ∨ kT d x = false) : jnS d L x = L := by
 unfold jnS
 rw [if_neg (by rw [xX (List.mem_of_getElem? hz) he]; simp)]
 refine (List.map_congr_left (g := id) fun y hy => ?_).trans (List.map_id _)
 obtain ⟨j, hj⟩ := List.mem_iff_getElem?.1 hy
 by_cases hkj : k = j
 ·subst hkj; rw [hz] at hj; injection hj with hj; subst hj
  rw [if_neg (fun h' => by rcases h with h | h <;> simp [h] at h')]; rfl
 ·have := BC hs hz hj hkj
  rw [if_neg (fun h' => this (he.trans h'.1.symm))]; rfl
theorem CO {d : List Int} {L : List Pg} {x : Pg} (h : pM L x = false) : jnS d L x = nA L x := by unfold jnS; rw [if_pos h]
theorem LD {d : List Int} {L : List Pg} {x : Pg} : (L.map fun z => if idP z = idP x ∧ kT d z = false ∧ kT d x = true then x else z).map idP = L.map idP := by
 rw [List.map_map]
 refine List.map_congr_left fun z _ => ?_
 simp only [Function.comp_apply]
 split
 ·rename_i h; exact h.1.symm
 ·rfl
theorem wH {d : List Int} {L : List Pg} {x : Pg} (hs : lZ L) : lZ (jnS d L x) := by
 unfold jnS
 split
 ·rename_i h; exact nX hs h
 ·exact xF LD.symm hs
theorem LI {d : List Int} {L : List Pg} {x : Pg} : L.length ≤ (jnS d L x).length ∧ (jnS d L x).length ≤ L.length + 1 := by
 unfold jnS
 split
 ·rw [nY]; omega
 ·rw [List.length_map]; omega
theorem LH {d : List Int} {L : List Pg} {x z : Pg} (h : z ∈ jnS d L x) : z ∈ L ∨ z = x := by
 unfold jnS at h
 split at h
 ·exact kD h
 ·obtain ⟨y, hy, rfl⟩ := List.mem_map.1 h
  split
  ·exact .inr rfl
  ·exact .inl hy
theorem nW {d : List Int} {L M : List Pg} {x : Pg} : jnL d L (M ++ [x]) = jnS d (jnL d L M) x := by unfold jnL; rw [List.foldl_append]; rfl
def jnE (t t' : ByteArray) (b b' : List UInt8) (L M : List Pg) : Int :=
 if eY t b L = false ∨ eY t' b' M = false then 1 else if t ≠ t' ∨ b ≠ b' then 9 else if 8 < (jnL (dQ t b) L M).length then 3 else 0
structure JnV where
 E : Int
 t : ByteArray
 b : List UInt8
 L : List Pg
def EP (E : Int) : JnV := ⟨E, ⟨#[]⟩, [], []⟩
def jnV (t t' : ByteArray) (b b' : List UInt8) (L M : List Pg) : JnV :=
 if jnE t t' b b' L M = 0 then ⟨0, t, b, jnL (dQ t b) L M⟩ else EP (jnE t t' b b' L M)
def JnR (V : JnV) (w : World) (e : Ending) (w' : World) : Prop :=
 ∃ (sp : Option Addr) (n c : Nat) (sq : Option Addr) (m d : Nat) (l : List Sg), e = .returned (.tuple #[.agg (enA V.t (.slice sp n c) (.slice sq m d)), .int .i64 V.E]) ∧ BSrc w' w'.heap.size sp n c V.b ∧ SgsIn w' w'.heap.size sq m d l ∧ l.map pg = V.L ∧ Below w.heap.size w w'
theorem JnR.err {w w' : World} {E : Int} (hb : Below w.heap.size w w') : JnR (EP E) w (.returned (.tuple #[.agg zEn, .int .i64 E])) w' := ⟨none, 0, 0, none, 0, 0, [], rfl, ⟨rfl, fun h => by omega⟩, SgsIn.nil _ _, rfl, hb⟩
end Go.Proofs.YtcligodahogpkaaGreatDoor
