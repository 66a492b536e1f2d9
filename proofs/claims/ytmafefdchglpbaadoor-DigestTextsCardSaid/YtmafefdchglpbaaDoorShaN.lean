/-
  Plain mathematics, without conditions beyond those of each lemma: the padding of SHA-256, and the digest of a list of bytes (no program is named here).
-/
import Derived.Test.YtmafefdchglpbaaDoorShaM
namespace Go.Proofs.YtmafefdchglpbaaDoor
open Go

/-- byte i, from the least one, of the number m -/
def lb (m : Int) (i : Nat) : Int := m / 2 ^ (8 * i) % 256
def lenb (m : Int) : List Int := [lb m 7, lb m 6, lb m 5, lb m 4, lb m 3, lb m 2, lb m 1, lb m 0]
theorem lb_byt (m : Int) (i : Nat) : 0 ≤ lb m i ∧ lb m i < 256 := by unfold lb; omega
theorem lenb_byt (m : Int) : Byt (lenb m) := fun x hx => by
  simp only [lenb, List.mem_cons, List.not_mem_nil, or_false] at hx
  rcases hx with rfl | rfl | rfl | rfl | rfl | rfl | rfl | rfl <;> exact lb_byt _ _
/-- the message with its padding -/
def pad (l : List Int) : List Int := l ++ (128 :: (List.replicate ((119 - l.length % 64) % 64) 0 ++ lenb (8 * (l.length : Int))))
theorem pad_length (l : List Int) : (pad l).length = l.length + 9 + (119 - l.length % 64) % 64 := by simp [pad, lenb]; omega
def sha (l : List Int) : St := blks ((pad l).length / 64) iv (pad l)

/-- the row behind n steps of the loop that writes the length -/
def setLen (r : List Int) (m : Int) : Nat → List Int
  | 0 => r
  | i + 1 => (setLen r m i).set (63 - i) (lb m i)
theorem setLen_length (r : List Int) (m : Int) (n : Nat) : (setLen r m n).length = r.length := by
  induction n with
  | zero => rfl
  | succ n ih => simp [setLen, ih]
theorem setLen_byt (r : List Int) (m : Int) (n : Nat) (h : Byt r) : Byt (setLen r m n) := by
  induction n with
  | zero => exact h
  | succ n ih => exact ih.set _ _ (lb_byt _ _).1 (lb_byt _ _).2
theorem set_past (a b : List Int) (i : Nat) (v : Int) (h : a.length = 56) (hi : 56 ≤ i) : (a ++ b).set i v = a ++ b.set (i - 56) v := by
  rw [List.set_append_right _ _ (by omega), h]
theorem setLen_eight (r : List Int) (m : Int) (h : r.length = 64) : setLen r m 8 = r.take 56 ++ lenb m := by
  obtain ⟨t, ht⟩ : ∃ t, t = r.drop 56 := ⟨_, rfl⟩
  have hl : t.length = 8 := by rw [ht, List.length_drop]; omega
  have e : r = r.take 56 ++ t := by rw [ht, List.take_append_drop]
  have hk : (r.take 56).length = 56 := by rw [List.length_take]; omega
  rw [e]
  generalize r.take 56 = k at *
  rw [show (k ++ t).take 56 = k by rw [List.take_append_of_le_length (by omega), List.take_of_length_le (by omega)]]
  match t, hl with
  | [_, _, _, _, _, _, _, _], _ => simp [setLen, set_past _ _ _ _ hk, lenb]

/-- the row behind the byte 128 and the zeros -/
theorem mark_zero (rest : List Int) (u : Nat) (hr : rest.length = 64) (hu : u < 64) :
    splice (rest.set u 128) (u + 1) (List.replicate (63 - u) 0) = rest.take u ++ (128 :: List.replicate (63 - u) 0) := by
  unfold splice
  have h1 : (rest.set u 128).take (u + 1) = rest.take u ++ [128] := by
    rw [List.take_succ_eq_append_getElem (by rw [List.length_set]; omega)]
    simp [List.take_set]
    exact List.set_eq_of_length_le (by rw [List.length_take]; omega)
  rw [h1, List.drop_eq_nil_of_le (by simp; omega), List.append_nil, List.append_assoc, List.singleton_append]

theorem sha_one {l : List Int} {st : St} {rest : List Int} {used : Nat} {len : Int} (h : Has l st rest used len) (hr : rest.length = 64) (hu : used < 56) :
    comp st (setLen (rest.take used ++ (128 :: List.replicate (63 - used) 0)) (8 * len) 8) = sha l := by
  have e := h.hused
  rw [setLen_eight _ _ (by simp; omega), h.htail, h.hlen]
  have hd : (l.drop (64 * (l.length / 64))).length = used := by rw [List.length_drop]; omega
  have e2 : (l.drop (64 * (l.length / 64)) ++ (128 :: List.replicate (63 - used) 0)).take 56 = l.drop (64 * (l.length / 64)) ++ (128 :: List.replicate (55 - used) 0) := by
    rw [List.take_append, hd, List.take_of_length_le (by omega)]
    obtain ⟨n, hn⟩ : ∃ n, 56 - used = n + 1 := ⟨55 - used, by omega⟩
    rw [hn, List.take_succ_cons, List.take_replicate, show min n (63 - used) = 55 - used by omega]
  rw [e2]
  unfold sha
  have hp := pad_length l
  have hz : (119 - l.length % 64) % 64 = 55 - used := by omega
  have hM : (pad l).length / 64 = l.length / 64 + 1 := by rw [hp, hz]; omega
  rw [hM, blks_succ]
  unfold pad
  rw [blks_append _ _ _ _ (by omega), ← h.hst, hz, List.drop_append_of_le_length (by omega)]
  congr 1
  rw [List.take_of_length_le (by simp [lenb]; omega)]
  simp

theorem sha_two {l : List Int} {st : St} {rest : List Int} {used : Nat} {len : Int} (h : Has l st rest used len) (hu : 56 ≤ used) :
    comp (comp st (rest.take used ++ (128 :: List.replicate (63 - used) 0))) (setLen (List.replicate 64 0) (8 * len) 8) = sha l := by
  have e := h.hused
  rw [setLen_eight _ _ (by simp), h.htail, h.hlen]
  have hd : (l.drop (64 * (l.length / 64))).length = used := by rw [List.length_drop]; omega
  unfold sha
  have hp := pad_length l
  have hz : (119 - l.length % 64) % 64 = (63 - used) + 56 := by omega
  have hM : (pad l).length / 64 = l.length / 64 + 1 + 1 := by rw [hp, hz]; omega
  have hpad : pad l = (l ++ (128 :: List.replicate (63 - used) 0)) ++ (List.replicate 56 0 ++ lenb (8 * (l.length : Int))) := by
    unfold pad; rw [hz, ← List.replicate_append_replicate]; simp
  rw [hM, hpad]
  have hlen1 : (l ++ (128 :: List.replicate (63 - used) 0)).length = 64 * (l.length / 64 + 1) := by simp; omega
  rw [blks_succ, blks_append _ _ _ _ (by omega), blks_succ, blks_append _ _ _ _ (by omega), ← h.hst]
  have hx : ((l ++ (128 :: List.replicate (63 - used) 0)).drop (64 * (l.length / 64))).take 64 = l.drop (64 * (l.length / 64)) ++ (128 :: List.replicate (63 - used) 0) := by
    rw [List.drop_append_of_le_length (by omega), List.take_of_length_le (by simp; omega)]
  rw [hx, ← hlen1, List.drop_left, List.take_of_length_le (l := List.replicate 56 0 ++ lenb (8 * (l.length : Int))) (by simp [lenb])]
  rw [List.take_replicate, show min 56 64 = 56 from rfl]

end Go.Proofs.YtmafefdchglpbaaDoor
