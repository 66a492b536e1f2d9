/-
  Plain mathematics, without conditions beyond those of each lemma: what hexadecimal digits stand for, and that it is what was written (no program is named here but for its name space).
-/
import Derived.Test.YtmafefdchglpbaaDoorHexC
import Derived.Lib.Bytealg
namespace Go.Proofs.YtmafefdchglpbaaDoor
open Go.RowKit

/-- the lower-case hexadecimal digits; the value of a digit, 16 if it is none -/
def hexd : List UInt8 := [48, 49, 50, 51, 52, 53, 54, 55, 56, 57, 97, 98, 99, 100, 101, 102]
def hexv (c : UInt8) : Nat := if 48 ≤ c.toNat ∧ c.toNat ≤ 57 then c.toNat - 48 else if 97 ≤ c.toNat ∧ c.toNat ≤ 102 then c.toNat - 87 else 16
theorem hexv_le (c : UInt8) : hexv c ≤ 16 := by unfold hexv; split <;> (try split) <;> omega
theorem index_hexlF : ∀ c : Fin 256, Lib.indexByte hexd (UInt8.ofNat c.val) = if hexv (UInt8.ofNat c.val) = 16 then -1 else (hexv (UInt8.ofNat c.val) : Int) := by decide +kernel
theorem index_hexl (c : UInt8) : Lib.indexByte hexd c = if hexv c = 16 then -1 else (hexv c : Int) := by
  have h := index_hexlF ⟨c.toNat, UInt8.toNat_lt _⟩
  simpa using h
/-- the byte at place i of what a text stands for; whether the digits at place i are digits; the first n -/
def hby (l : List UInt8) (i : Nat) : Int := ((16 * hexv (l.getD (2 * i) 0) + hexv (l.getD (2 * i + 1) 0) : Nat) : Int)
def hok1 (l : List UInt8) (i : Nat) : Bool := decide (hexv (l.getD (2 * i) 0) < 16) && decide (hexv (l.getD (2 * i + 1) 0) < 16)
def hok (l : List UInt8) (n : Nat) : Bool := (List.range n).all (hok1 l)
def hbs (l : List UInt8) (n : Nat) : List Int := (List.range n).map (hby l)
theorem hbs_length (l : List UInt8) (n : Nat) : (hbs l n).length = n := by simp [hbs]
theorem hok_succ (l : List UInt8) (k : Nat) : hok l (k + 1) = (hok l k && hok1 l k) := by unfold hok; rw [List.range_succ, List.all_append]; simp
theorem hbs_succ (l : List UInt8) (k : Nat) : hbs l (k + 1) = hbs l k ++ [hby l k] := by unfold hbs; rw [List.range_succ, List.map_append]; rfl
theorem hok_bad {l : List UInt8} {k n : Nat} (h : hok1 l k = false) (hk : k < n) : hok l n = false := by
  unfold hok
  rw [List.all_eq_false]
  exact ⟨k, by simpa using hk, by rw [h]; simp⟩
/-- the row on the way: k bytes written, the others as they were -/
theorem way_set (l : List UInt8) (L0 : List Int) (n k : Nat) (hl : L0.length = n) (hk : k < n) : (hbs l k ++ L0.drop k).set k (hby l k) = hbs l (k + 1) ++ L0.drop (k + 1) := by
  rw [List.set_append_right _ _ (by rw [hbs_length]; exact Nat.le_refl _), hbs_length, Nat.sub_self, hbs_succ, List.drop_eq_getElem_cons (l := L0) (i := k) (by omega), List.append_assoc]
  rfl
theorem way_length (l : List UInt8) (L0 : List Int) (n k : Nat) (hl : L0.length = n) (hk : k ≤ n) : (hbs l k ++ L0.drop k).length = n := by
  rw [List.length_append, hbs_length, List.length_drop]; omega
theorem or_hexlF : ∀ a b : Fin 16, (bits .or .i64 ((a.val : Int) * 16) (b.val : Int)) = ((16 * a.val + b.val : Nat) : Int) := by decide +kernel
theorem or_hexl (a b : Nat) (ha : a < 16) (hb : b < 16) : bits .or .i64 ((a : Int) * 16) (b : Int) = ((16 * a + b : Nat) : Int) := or_hexlF ⟨a, ha⟩ ⟨b, hb⟩
/-- what is written is read -/
theorem hexv_hexlF : ∀ n : Fin 16, hexv (hexl n.val) = n.val := by decide +kernel
theorem hexv_hexl (n : Nat) (h : n < 16) : hexv (hexl n) = n := hexv_hexlF ⟨n, h⟩
theorem hexB_at (a : List Int) (i : Nat) (h : i < a.length) : (hexB a).getD (2 * i) 0 = hexl ((a.getD i 0).toNat / 16) ∧ (hexB a).getD (2 * i + 1) 0 = hexl ((a.getD i 0).toNat % 16) := by
  induction a generalizing i with
  | nil => simp at h
  | cons x r ih =>
    match i with
    | 0 => exact ⟨rfl, rfl⟩
    | j + 1 =>
      have := ih j (by simpa using h)
      rw [show 2 * (j + 1) = 2 * j + 1 + 1 by omega]
      exact this
theorem hok_hexB (a : List Int) (ha : Byt a) : hok (hexB a) a.length = true := by
  unfold hok
  rw [List.all_eq_true]
  intro i hi
  have hi' : i < a.length := by simpa using hi
  have hx := ha.at_ i
  obtain ⟨h1, h2⟩ := hexB_at a i hi'
  unfold hok1
  rw [h1, h2, hexv_hexl _ (by omega), hexv_hexl _ (by omega), decide_eq_true (by omega), decide_eq_true (by omega)]; rfl
theorem hbs_hexB (a : List Int) (ha : Byt a) : hbs (hexB a) a.length = a := by
  apply List.ext_getElem
  · rw [hbs_length]
  · intro i h1 h2
    have hx := ha.at_ i
    obtain ⟨e1, e2⟩ := hexB_at a i h2
    have e : (hbs (hexB a) a.length)[i] = hby (hexB a) i := by simp [hbs]
    rw [e]; unfold hby
    rw [e1, e2, hexv_hexl _ (by omega), hexv_hexl _ (by omega)]
    have : a.getD i 0 = a[i] := by simp [List.getD_eq_getElem?_getD, List.getElem?_eq_getElem h2]
    rw [this] at hx ⊢; omega
end Go.Proofs.YtmafefdchglpbaaDoor
