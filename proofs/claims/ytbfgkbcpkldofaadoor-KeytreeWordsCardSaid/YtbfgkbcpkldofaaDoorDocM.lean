/-
  Lines of words in memory, and the plain form of document.Encode (conditions in each theorem).
-/
import Derived.Test.YtbfgkbcpkldofaaDoorDocW
namespace Go.Proofs.YtbfgkbcpkldofaaDoor
open Go.RowKit

/-- a slice of strings, all below block B -/
structure StrsIn (w : World) (B : Nat) (sp : Option Addr) (n : Nat) (l : List ByteArray) : Prop where
  len : l.length = n
  cells : 0 < n → ∃ b off, sp = some ⟨b, off, none⟩ ∧ b < B ∧ ∀ j (hj : j < l.length), w.cell? ⟨b, off + j, none⟩ = some (.string l[j])
theorem StrsIn.below {w w' : World} {B B' : Nat} {sp : Option Addr} {n : Nat} {l : List ByteArray} (h : StrsIn w B sp n l) (hb : Below B' w w') (hB : B ≤ B') : StrsIn w' B sp n l :=
  ⟨h.len, fun hn => by
    obtain ⟨b, off, e, hlt, hc⟩ := h.cells hn
    exact ⟨b, off, e, hlt, fun j hj => (hb.cell (p := ⟨b, off + j, none⟩) (by show b < B'; omega)).trans (hc j hj)⟩⟩
theorem StrsIn.more {w : World} {B B' : Nat} {sp : Option Addr} {n : Nat} {l : List ByteArray} (h : StrsIn w B sp n l) (hB : B ≤ B') : StrsIn w B' sp n l :=
  ⟨h.len, fun hn => by
    obtain ⟨b, off, e, hlt, hc⟩ := h.cells hn
    exact ⟨b, off, e, by omega, hc⟩⟩

/-- one line: a slice's value and the words that it reads as -/
structure Ln where
  sp : Option Addr
  n : Nat
  cap : Nat
  l : List ByteArray
def Ln.val (q : Ln) : Value := .slice q.sp q.n q.cap
/-- a slice of lines, all below block B -/
structure LinesIn (w : World) (B : Nat) (pa : Option Addr) (np : Nat) (ls : List Ln) : Prop where
  len : ls.length = np
  cells : 0 < np → ∃ pb po, pa = some ⟨pb, po, none⟩ ∧ pb < B ∧ ∀ j (hj : j < ls.length), w.cell? ⟨pb, po + j, none⟩ = some ls[j].val
  each : ∀ q ∈ ls, StrsIn w B q.sp q.n q.l
theorem LinesIn.below {w w' : World} {B B' : Nat} {pa : Option Addr} {np : Nat} {ls : List Ln} (h : LinesIn w B pa np ls) (hb : Below B' w w') (hB : B ≤ B') : LinesIn w' B pa np ls :=
  ⟨h.len, fun hn => by
    obtain ⟨pb, po, e, hlt, hc⟩ := h.cells hn
    exact ⟨pb, po, e, hlt, fun j hj => (hb.cell (p := ⟨pb, po + j, none⟩) (by show pb < B'; omega)).trans (hc j hj)⟩, fun q hq => (h.each q hq).below hb hB⟩
theorem LinesIn.more {w : World} {B B' : Nat} {pa : Option Addr} {np : Nat} {ls : List Ln} (h : LinesIn w B pa np ls) (hB : B ≤ B') : LinesIn w B' pa np ls :=
  ⟨h.len, fun hn => by
    obtain ⟨pb, po, e, hlt, hc⟩ := h.cells hn
    exact ⟨pb, po, e, by omega, hc⟩, fun q hq => (h.each q hq).more hB⟩

/-- a word that is too long; the error of one line; of the first line that has one; of all lines (0: none) -/
def lng (s : ByteArray) : Bool := decide (32768 < s.size)
def chkLine (l : List ByteArray) : Nat := if l.length = 0 then 1 else if 120 < l.length ∨ l.any lng = true then 3 else 0
def firstBad : List (List ByteArray) → Nat
  | [] => 0
  | l :: r => if chkLine l = 0 then firstBad r else chkLine l
def chk (ls : List (List ByteArray)) : Nat := if 1000 < ls.length then 3 else firstBad ls
theorem firstBad_append (a b : List (List ByteArray)) (h : firstBad a = 0) : firstBad (a ++ b) = firstBad b := by
  induction a with
  | nil => rfl
  | cons x t ih =>
    unfold firstBad at h
    by_cases hx : chkLine x = 0
    · rw [if_pos hx] at h
      show (if chkLine x = 0 then firstBad (t ++ b) else chkLine x) = firstBad b
      rw [if_pos hx]; exact ih h
    · rw [if_neg hx] at h; exact absurd h hx
theorem firstBad_take (ls : List (List ByteArray)) (k : Nat) (hk : k < ls.length) (h : firstBad (ls.take k) = 0) :
    (chkLine ls[k] = 0 → firstBad (ls.take (k + 1)) = 0) ∧ (chkLine ls[k] ≠ 0 → firstBad ls = chkLine ls[k]) := by
  constructor
  · intro hc
    rw [List.take_succ_eq_append_getElem hk, firstBad_append _ _ h]
    unfold firstBad; rw [if_pos hc]; rfl
  · intro hc
    have e : ls = ls.take k ++ ls[k] :: ls.drop (k + 1) := by
      rw [← List.drop_eq_getElem_cons hk, List.take_append_drop]
    conv => lhs; rw [e]
    rw [firstBad_append _ _ h]
    unfold firstBad; rw [if_neg hc]
theorem firstBad_all {ls : List (List ByteArray)} (h : firstBad ls = 0) : ∀ l ∈ ls, chkLine l = 0 := by
  induction ls with
  | nil => intro l hl; cases hl
  | cons x t ih =>
    unfold firstBad at h
    by_cases hx : chkLine x = 0
    · rw [if_pos hx] at h
      intro l hl
      rcases List.mem_cons.1 hl with rfl | hl
      · exact hx
      · exact ih h l hl
    · rw [if_neg hx] at h; exact absurd h hx
theorem chkLine_ok {l : List ByteArray} (h : chkLine l = 0) : 0 < l.length ∧ l.length ≤ 120 ∧ ∀ s ∈ l, s.size ≤ 32768 := by
  unfold chkLine at h
  by_cases h0 : l.length = 0
  · rw [if_pos h0] at h; cases h
  · rw [if_neg h0] at h
    by_cases h1 : 120 < l.length ∨ l.any lng = true
    · rw [if_pos h1] at h; cases h
    · have h2 : ¬ 120 < l.length := fun h => h1 (.inl h)
      refine ⟨by omega, by omega, fun s hs => ?_⟩
      rcases Nat.lt_or_ge 32768 s.size with hlt | hge
      · exact absurd (.inr (List.any_eq_true.2 ⟨s, hs, by unfold lng; exact decide_eq_true hlt⟩)) h1
      · exact hge

/-- the words of a line, each followed by a blank; the line's encoded form; that of all lines -/
def body (l : List ByteArray) : List UInt8 := l.flatMap fun s => wordL s.data.toList ++ [32]
def lineL (l : List ByteArray) : List UInt8 := (body l).dropLast ++ [10]
def encL (ls : List (List ByteArray)) : List UInt8 := ls.flatMap lineL
/-- the error and the bytes that document.Encode answers -/
def enc (ls : List (List ByteArray)) : Nat × List UInt8 :=
  if chk ls = 0 then (if 262144 < (encL ls).length then (3, []) else (0, encL ls)) else (chk ls, [])
theorem body_succ (l : List ByteArray) (k : Nat) (hk : k < l.length) : body (l.take (k + 1)) = body (l.take k) ++ (wordL l[k].data.toList ++ [32]) := by
  unfold body; rw [List.take_succ_eq_append_getElem hk, List.flatMap_append]; simp
theorem encL_succ (ls : List (List ByteArray)) (k : Nat) (hk : k < ls.length) : encL (ls.take (k + 1)) = encL (ls.take k) ++ lineL ls[k] := by
  unfold encL; rw [List.take_succ_eq_append_getElem hk, List.flatMap_append]; simp
theorem wordL_pos (l : List UInt8) : 0 < (wordL l).length := by
  unfold wordL
  split
  · simp
  · rename_i h
    cases l with
    | nil => exact absurd rfl h
    | cons a t =>
      simp only [List.flatMap_cons, List.length_append]
      have : 0 < (encB a).length := by unfold encB; split <;> simp
      omega
theorem body_pos {l : List ByteArray} (h : 0 < l.length) : 0 < (body l).length := by
  cases l with
  | nil => cases h
  | cons a t => unfold body; simp only [List.flatMap_cons, List.length_append]; have := wordL_pos a.data.toList; omega
theorem body_last {l : List ByteArray} (h : 0 < l.length) : body l = (body l).dropLast ++ [32] := by
  obtain ⟨k, hk⟩ : ∃ k, l.length = k + 1 := ⟨l.length - 1, by omega⟩
  have e := body_succ l k (by omega)
  rw [List.take_of_length_le (by omega)] at e
  rw [e, ← List.append_assoc, List.dropLast_concat]
theorem body_mono (l : List ByteArray) (k : Nat) : (body (l.take k)).length ≤ (body l).length := by
  have e : body l = body (l.take k) ++ body (l.drop k) := by
    unfold body; rw [← List.flatMap_append, List.take_append_drop]
  rw [e, List.length_append]; omega
theorem encL_mono (ls : List (List ByteArray)) (k : Nat) : (encL (ls.take k)).length ≤ (encL ls).length := by
  have e : encL ls = encL (ls.take k) ++ encL (ls.drop k) := by
    unfold encL; rw [← List.flatMap_append, List.take_append_drop]
  rw [e, List.length_append]; omega
theorem lineL_length {l : List ByteArray} (h : 0 < l.length) : (lineL l).length = (body l).length := by
  unfold lineL; rw [body_last h]; simp
theorem set_last {xs bs : List UInt8} (h : 0 < bs.length) (c : UInt8) : (xs ++ bs).set (xs.length + bs.length - 1) c = xs ++ (bs.dropLast ++ [c]) := by
  rw [List.set_append_right _ _ (by omega)]
  congr 1
  have e : xs.length + bs.length - 1 - xs.length = bs.dropLast.length := by rw [List.length_dropLast]; omega
  obtain ⟨ys, y, rfl⟩ : ∃ ys y, bs = ys ++ [y] := ⟨bs.dropLast, bs.getLast (List.ne_nil_of_length_pos h), (List.dropLast_concat_getLast _).symm⟩
  rw [e, List.dropLast_concat, List.set_append_right _ _ (Nat.le_refl _), Nat.sub_self]
  rfl
def wordsOf (ls : List Ln) : List (List ByteArray) := ls.map Ln.l
theorem wordsOf_length (ls : List Ln) : (wordsOf ls).length = ls.length := by simp [wordsOf]
theorem wordsOf_get (ls : List Ln) (k : Nat) (hk : k < ls.length) : (wordsOf ls)[k]'(by rw [wordsOf_length]; exact hk) = ls[k].l := by simp [wordsOf]
end Go.Proofs.YtbfgkbcpkldofaaDoor
