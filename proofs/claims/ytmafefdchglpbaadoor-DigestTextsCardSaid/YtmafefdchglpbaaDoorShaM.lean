/-
  Plain mathematics, without conditions beyond those of each lemma: what a hash that has taken a list of bytes holds, block by block (no program is named here).
-/
import Derived.Test.YtmafefdchglpbaaDoorSha
import Derived.Laws.CopyOwn
namespace Go.Proofs.YtmafefdchglpbaaDoor
open Go

/-- numbers that are bytes -/
def Byt (l : List Int) : Prop := ∀ x ∈ l, 0 ≤ x ∧ x < 256
theorem Byt.at_ {l : List Int} (h : Byt l) (j : Nat) : 0 ≤ l.getD j 0 ∧ l.getD j 0 < 256 := by
  rw [List.getD_eq_getElem?_getD]
  by_cases hj : j < l.length
  · rw [List.getElem?_eq_getElem hj]; exact h _ (List.getElem_mem hj)
  · rw [List.getElem?_eq_none (by omega)]; simp
theorem Byt.take {l : List Int} (h : Byt l) (k : Nat) : Byt (l.take k) := fun x hx => h x (List.mem_of_mem_take hx)
theorem Byt.drop {l : List Int} (h : Byt l) (k : Nat) : Byt (l.drop k) := fun x hx => h x (List.mem_of_mem_drop hx)
theorem Byt.append {a b : List Int} (ha : Byt a) (hb : Byt b) : Byt (a ++ b) := fun x hx => by
  rcases List.mem_append.1 hx with h | h
  · exact ha x h
  · exact hb x h
theorem Byt.splice {a b : List Int} (ha : Byt a) (hb : Byt b) (k : Nat) : Byt (splice a k b) := (ha.take k).append (hb.append (ha.drop _))
theorem Byt.zeros (n : Nat) : Byt (List.replicate n 0) := fun x hx => by rw [List.eq_of_mem_replicate hx]; omega
theorem Byt.set {l : List Int} (h : Byt l) (i : Nat) (v : Int) (h0 : 0 ≤ v) (h1 : v < 256) : Byt (l.set i v) := fun x hx => by
  rcases List.mem_or_eq_of_mem_set hx with h' | h'
  · exact h x h'
  · subst h'; exact ⟨h0, h1⟩

theorem drop_mid (l b : List Int) (k : Nat) : (l ++ b).drop (l.length + k) = b.drop k := by
  rw [List.drop_append, List.drop_eq_nil_of_le (as := l) (by omega), Nat.add_sub_cancel_left, List.nil_append]

theorem blks_append (m : Nat) (s : St) (a b : List Int) (h : 64 * m ≤ a.length) : blks m s (a ++ b) = blks m s a := by
  induction m generalizing s a with
  | zero => rfl
  | succ m ih =>
    show blks m (comp s ((a ++ b).take 64)) ((a ++ b).drop 64) = blks m (comp s (a.take 64)) (a.drop 64)
    rw [List.take_append_of_le_length (by omega), List.drop_append_of_le_length (by omega), ih _ _ (by rw [List.length_drop]; omega)]
theorem blks_succ (m : Nat) (s : St) (a : List Int) : blks (m + 1) s a = comp (blks m s a) ((a.drop (64 * m)).take 64) := by
  induction m generalizing s a with
  | zero => rfl
  | succ m ih =>
    show blks (m + 1) (comp s (a.take 64)) (a.drop 64) = comp (blks m (comp s (a.take 64)) (a.drop 64)) _
    rw [ih, List.drop_drop]
    congr 3
    omega

/-- the hash that has taken l -/
structure Has (l : List Int) (st : St) (rest : List Int) (used : Nat) (len : Int) : Prop where
  hst : st = blks (l.length / 64) iv l
  hused : used = l.length % 64
  hlen : len = l.length
  htail : rest.take used = l.drop (64 * (l.length / 64))
  hbyt : Byt rest
/-- .. on the way through b: k bytes of b have gone, and whole blocks -/
structure Mid (l b : List Int) (k : Nat) (st : St) : Prop where
  le : k ≤ b.length
  whole : (l.length + k) % 64 = 0
  hst : st = blks ((l.length + k) / 64) iv (l ++ b)

theorem Has.start (rest : List Int) (h : Byt rest) : Has [] iv rest 0 0 := ⟨rfl, rfl, rfl, rfl, h⟩
theorem Has.mid0 {l : List Int} {st : St} {rest : List Int} {len : Int} (h : Has l st rest 0 len) (b : List Int) : Mid l b 0 st :=
  ⟨Nat.zero_le _, by rw [Nat.add_zero]; exact h.hused.symm, by rw [Nat.add_zero, blks_append _ _ _ _ (by omega)]; exact h.hst⟩
theorem splice_take {l : List Int} (k : Nat) (c : List Int) (h : k ≤ l.length) : (splice l k c).take (k + c.length) = l.take k ++ c := by
  unfold splice
  have hk : (l.take k).length = k := by rw [List.length_take]; omega
  rw [List.take_append, hk, Nat.add_sub_cancel_left, List.take_of_length_le (by omega), List.take_append_of_le_length (Nat.le_refl _), List.take_length]
theorem Has.mid1 {l : List Int} {st : St} {rest : List Int} {used : Nat} {len : Int} (h : Has l st rest used len) (b : List Int) (hr : rest.length = 64) (_h0 : 0 < used) (h1 : 64 ≤ used + b.length) :
    Mid l b (64 - used) (comp st (splice rest used (b.take (64 - used)))) := by
  have hu := h.hused
  have hlt : used < 64 := by omega
  have hb : (b.take (64 - used)).length = 64 - used := by rw [List.length_take]; omega
  have hd : (l.drop (64 * (l.length / 64))).length = used := by rw [List.length_drop]; omega
  refine ⟨by omega, by omega, ?_⟩
  have e : (l.length + (64 - used)) / 64 = l.length / 64 + 1 := by omega
  rw [e, blks_succ, blks_append _ _ _ _ (by omega), ← h.hst]
  congr 1
  have hs := splice_take (l := rest) used (b.take (64 - used)) (by omega)
  rw [hb, show used + (64 - used) = 64 by omega] at hs
  rw [List.take_of_length_le (by rw [length_splice _ _ _ (by rw [hb, hr]; omega), hr]; omega)] at hs
  rw [hs, h.htail, List.drop_append_of_le_length (by omega), List.take_append, hd, List.take_of_length_le (l := List.drop (64 * (l.length / 64)) l) (by omega)]
theorem Mid.step {l b : List Int} {k : Nat} {st : St} (h : Mid l b k st) (hk : k + 64 ≤ b.length) : Mid l b (k + 64) (comp st ((b.drop k).take 64)) := by
  have hw := h.whole
  refine ⟨hk, by omega, ?_⟩
  have e : (l.length + (k + 64)) / 64 = (l.length + k) / 64 + 1 := by omega
  rw [e, blks_succ, ← h.hst]
  congr 2
  have e2 : 64 * ((l.length + k) / 64) = l.length + k := by omega
  rw [e2, drop_mid]
theorem Mid.fin {l b : List Int} {k : Nat} {st : St} (h : Mid l b k st) (hk : b.length < k + 64) {rest : List Int} (_hr : rest.length = 64) (hby : Byt rest) (hbb : Byt b) :
    Has (l ++ b) st (splice rest 0 (b.drop k)) (b.length - k) ((l.length : Int) + b.length) := by
  have hw := h.whole
  have hle := h.le
  have hd : (b.drop k).length = b.length - k := List.length_drop
  have hlen : (l ++ b).length = l.length + b.length := List.length_append
  have e1 : (l.length + b.length) / 64 = (l.length + k) / 64 := by omega
  refine ⟨by rw [hlen, e1]; exact h.hst, by rw [hlen]; omega, by rw [hlen]; simp, ?_, hby.splice (hbb.drop k) 0⟩
  have hs := splice_take (l := rest) 0 (b.drop k) (by omega)
  rw [hd, Nat.zero_add, List.take_zero, List.nil_append] at hs
  rw [hs, hlen, e1]
  have e2 : 64 * ((l.length + k) / 64) = l.length + k := by omega
  rw [e2, drop_mid]
theorem Has.small {l : List Int} {st : St} {rest : List Int} {used : Nat} {len : Int} (h : Has l st rest used len) (b : List Int) (hr : rest.length = 64) (h1 : used + b.length < 64) (hbb : Byt b) :
    Has (l ++ b) st (splice rest used b) (used + b.length) (len + b.length) := by
  have hu := h.hused
  have hlen : (l ++ b).length = l.length + b.length := List.length_append
  have e1 : (l.length + b.length) / 64 = l.length / 64 := by omega
  refine ⟨by rw [hlen, e1, blks_append _ _ _ _ (by omega)]; exact h.hst, by rw [hlen]; omega, by rw [hlen, h.hlen]; simp, ?_, h.hbyt.splice hbb used⟩
  rw [splice_take _ _ (by omega), h.htail, hlen, e1, List.drop_append_of_le_length (by omega)]

theorem getD_drop_take (b : List Int) (k m j : Nat) (h : j < m) : ((b.drop k).take m).getD j 0 = b.getD (k + j) 0 := by
  simp [List.getD_eq_getElem?_getD, h, List.getElem?_drop]

end Go.Proofs.YtmafefdchglpbaaDoor
