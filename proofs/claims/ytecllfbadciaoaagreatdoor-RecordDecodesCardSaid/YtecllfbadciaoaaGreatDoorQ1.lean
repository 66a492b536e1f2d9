/-
  The walk of document.readLine (condition: a string of at most ten million bytes).
-/
import Derived.Test.YtecllfbadciaoaaGreatDoorZip
import Derived.Test.YtecllfbadciaoaaGreatDoorQ0
import Derived.Laws.OwnMore
import Derived.Deep.Cut
import Derived.WalkMore
set_option maxRecDepth 100000
set_option maxHeartbeats 8000000
namespace Go.Proofs.YtecllfbadciaoaaGreatDoor
open Go.RowKit
theorem below_allocD (w : World) (o : Obj) : Below w.heap.size w (w.alloc o) := (Below.refl _ _).alloc (Nat.le_refl _) _
theorem own_monoD {w : World} {base base' : Nat} {e : TypeId} {size : Nat} {v : Value} {n : Nat} {xs : List Value} (h : w.ownsRow base e size v n xs) (hb : base' ≤ base) : w.ownsRow base' e size v n xs :=
 ⟨h.1, h.2.imp id fun ⟨g, cap, cur, h1, h2, h3⟩ => ⟨g, cap, cur, h1, Nat.le_trans hb h2, h3⟩⟩
theorem splitB_size (sep : ByteArray) : ∀ (k : Nat) (s : ByteArray), ∀ x ∈ Lib.splitB sep 0 k s, x.size ≤ s.size
 | 0, s, x, hx => by rw [Lib.splitB_zero, List.mem_singleton] at hx; subst hx; exact Nat.le_refl _
 | k + 1, s, x, hx => by
   unfold Lib.splitB at hx
   split at hx
   ·rw [List.mem_singleton] at hx; subst hx; exact Nat.le_refl _
   ·rcases List.mem_cons.1 hx with h | h
    ·subst h; rw [ByteArray.size_extract]; omega
    ·have := splitB_size sep k _ x h
     rw [ByteArray.size_extract] at this
     omega
theorem pcs_size (c : UInt8) (s : ByteArray) : ∀ x ∈ pcs c s, x.size ≤ s.size := splitB_size _ _ _
theorem pcs_cnt (c : UInt8) (s : ByteArray) : Lib.countB s (oneB c) ≤ s.size := Lib.countB_le (oneB c) (Nat.le_refl _) s.size s (Nat.le_refl _)
theorem readLine_any (s : ByteArray) (w : World) (hs : s.size ≤ 10000000) :
 Calls Tryz.prog 100 #[.string s] w (ConvRes w (unwsL (pcs 32 s))) := by
 have HC := zh (fun w => split_anyS s 32 w hs)
 have hl := pcs_len 32 s
 have hc := pcs_cnt 32 s
 have hz := pcs_size 32 s
 have HV : Hid (∀ w1, w1 = w.alloc (.cells ((pcs 32 s).map Value.string).toArray 9) → Calls Tryz.prog 121 #[.slice (some ⟨w.heap.size, 0, none⟩) (Lib.countB s (oneB 32) + 1) (Lib.countB s (oneB 32) + 1), .func (.func 122) #[] #[]] w1 fun e w' => ∃ v b, e = .returned (.tuple #[v, .bool b]) ∧ ConvRes w (unwsL (pcs 32 s)) e w') := by
  rintro w1 rfl
  have hb := below_allocD w (.cells ((pcs 32 s).map Value.string).toArray 9)
  have hnew := heap_alloc_new w (.cells ((pcs 32 s).map Value.string).toArray 9)
  refine (convW_any w.heap.size (Lib.countB s (oneB 32) + 1) (pcs 32 s) _ hl (by omega) (by simp) (fun j hj => ?_) (fun x hx => Nat.le_trans (hz x hx) (by omega))).mono fun e w' h => ?_
  ·rw [cell_of_row _ w.heap.size j _ _ (0, 0) hnew]
   have : j < (pcs 32 s).length := by omega
   simp [this]
  ·unfold ConvRes at h ⊢
   cases hu : unwsL (pcs 32 s) with
   | none =>
     rw [hu] at h
     obtain ⟨h1, h2⟩ := h
     exact ⟨_, _, h1, h1, hb.trans (h2.mono hb.size)⟩
   | some xs =>
     rw [hu] at h
     obtain ⟨sp, cap, h1, h2, h3⟩ := h
     exact ⟨_, _, h1, sp, cap, h1, own_monoD h2 hb.size, hb.trans (h3.mono hb.size)⟩
 clear hl hc hz hs
 go_enter Tryz.func100, Tryz.ntmps100
 go_wp2_with fail
 refine (HC.out _).mono ?_
 rintro e w1 ⟨rfl, hw⟩
 have HW := zh hw
 clear hw
 go_wp2_with fail
 refine (HV.out w1 HW.out).mono ?_
 rintro e w2 ⟨v, b, rfl, hr⟩
 have HR := zh hr
 clear hr
 go_wp2_with fail
 go_ret2
 exact HR.out
structure StrsIn (w : World) (B : Nat) (sp : Option Addr) (n : Nat) (l : List ByteArray) : Prop where
 len : l.length = n
 cells : 0 < n → ∃ b off, sp = some ⟨b, off, none⟩ ∧ b < B ∧ ∀ j (hj : j < l.length), w.cell? ⟨b, off + j, none⟩ = some (.string l[j])
theorem StrsIn.below {w w' : World} {B B' : Nat} {sp : Option Addr} {n : Nat} {l : List ByteArray} (h : StrsIn w B sp n l) (hb : Below B' w w') (hB : B ≤ B') : StrsIn w' B sp n l :=
 ⟨h.len, fun hn => by
  obtain ⟨b, off, e, hlt, hc⟩ := h.cells hn
  exact ⟨b, off, e, hlt, fun j hj => (hb.cell (p := ⟨b, off + j, none⟩) (by show b < B'; omega)).trans (hc j hj)⟩⟩
theorem StrsIn.more {w : World} {B B' : Nat} {sp : Option Addr} {n : Nat} {l : List ByteArray} (h : StrsIn w B sp n l) (hB : B ≤ B') : StrsIn w B' sp n l :=
 ⟨h.len, fun hn => by
  obtain ⟨b, off, e, hlt, hc⟩ := h.cells hn
  exact ⟨b, off, e, by omega, hc⟩⟩
structure Ln where
 sp : Option Addr
 n : Nat
 cap : Nat
 l : List ByteArray
def Ln.val (q : Ln) : Value := .slice q.sp q.n q.cap
structure LinesIn (w : World) (B : Nat) (pa : Option Addr) (np : Nat) (ls : List Ln) : Prop where
 len : ls.length = np
 cells : 0 < np → ∃ pb po, pa = some ⟨pb, po, none⟩ ∧ pb < B ∧ ∀ j (hj : j < ls.length), w.cell? ⟨pb, po + j, none⟩ = some ls[j].val
 each : ∀ q ∈ ls, StrsIn w B q.sp q.n q.l
theorem LinesIn.below {w w' : World} {B B' : Nat} {pa : Option Addr} {np : Nat} {ls : List Ln} (h : LinesIn w B pa np ls) (hb : Below B' w w') (hB : B ≤ B') : LinesIn w' B pa np ls :=
 ⟨h.len, fun hn => by
  obtain ⟨pb, po, e, hlt, hc⟩ := h.cells hn
  exact ⟨pb, po, e, hlt, fun j hj => (hb.cell (p := ⟨pb, po + j, none⟩) (by show pb < B'; omega)).trans (hc j hj)⟩, fun q hq => (h.each q hq).below hb hB⟩
theorem LinesIn.more {w : World} {B B' : Nat} {pa : Option Addr} {np : Nat} {ls : List Ln} (h : LinesIn w B pa np ls) (hB : B ≤ B') : LinesIn w B' pa np ls :=
 ⟨h.len, fun hn => by
  obtain ⟨pb, po, e, hlt, hc⟩ := h.cells hn
  exact ⟨pb, po, e, by omega, hc⟩, fun q hq => (h.each q hq).more hB⟩
def lng (s : ByteArray) : Bool := decide (32768 < s.size)
def chkLine (l : List ByteArray) : Nat := if l.length = 0 then 1 else if 120 < l.length ∨ l.any lng = true then 3 else 0
def firstBad : List (List ByteArray) → Nat
 | [] => 0
 | l :: r => if chkLine l = 0 then firstBad r else chkLine l
def chk (ls : List (List ByteArray)) : Nat := if 1000 < ls.length then 3 else firstBad ls
theorem firstBad_append (a b : List (List ByteArray)) (h : firstBad a = 0) : firstBad (a ++ b) = firstBad b := by
 induction a with
 | nil => rfl
 | cons x t ih =>
   unfold firstBad at h
   by_cases hx : chkLine x = 0
   ·rw [if_pos hx] at h
    show (if chkLine x = 0 then firstBad (t ++ b) else chkLine x) = firstBad b
    rw [if_pos hx]; exact ih h
   ·rw [if_neg hx] at h; exact absurd h hx
theorem firstBad_take (ls : List (List ByteArray)) (k : Nat) (hk : k < ls.length) (h : firstBad (ls.take k) = 0) :
 (chkLine ls[k] = 0 → firstBad (ls.take (k + 1)) = 0) ∧ (chkLine ls[k] ≠ 0 → firstBad ls = chkLine ls[k]) := by
 constructor
 ·intro hc
  rw [List.take_succ_eq_append_getElem hk, firstBad_append _ _ h]
  unfold firstBad; rw [if_pos hc]; rfl
 ·intro hc
  have e : ls = ls.take k ++ ls[k] :: ls.drop (k + 1) := by
   rw [← List.drop_eq_getElem_cons hk, List.take_append_drop]
  conv => lhs; rw [e]
  rw [firstBad_append _ _ h]
  unfold firstBad; rw [if_neg hc]
theorem firstBad_all {ls : List (List ByteArray)} (h : firstBad ls = 0) : ∀ l ∈ ls, chkLine l = 0 := by
 induction ls with
 | nil => intro l hl; cases hl
 | cons x t ih =>
   unfold firstBad at h
   by_cases hx : chkLine x = 0
   ·rw [if_pos hx] at h
    intro l hl
    rcases List.mem_cons.1 hl with rfl | hl
    ·exact hx
    ·exact ih h l hl
   ·rw [if_neg hx] at h; exact absurd h hx
theorem chkLine_ok {l : List ByteArray} (h : chkLine l = 0) : 0 < l.length ∧ l.length ≤ 120 ∧ ∀ s ∈ l, s.size ≤ 32768 := by
 unfold chkLine at h
 by_cases h0 : l.length = 0
 ·rw [if_pos h0] at h; cases h
 ·rw [if_neg h0] at h
  by_cases h1 : 120 < l.length ∨ l.any lng = true
  ·rw [if_pos h1] at h; cases h
  ·have h2 : ¬ 120 < l.length := fun h => h1 (.inl h)
   refine ⟨by omega, by omega, fun s hs => ?_⟩
   rcases Nat.lt_or_ge 32768 s.size with hlt | hge
   ·exact absurd (.inr (List.any_eq_true.2 ⟨s, hs, by unfold lng; exact decide_eq_true hlt⟩)) h1
   ·exact hge
def body (l : List ByteArray) : List UInt8 := l.flatMap fun s => wordL s.data.toList ++ [32]
def lineL (l : List ByteArray) : List UInt8 := (body l).dropLast ++ [10]
def encL (ls : List (List ByteArray)) : List UInt8 := ls.flatMap lineL
def enc (ls : List (List ByteArray)) : Nat × List UInt8 :=
 if chk ls = 0 then (if 262144 < (encL ls).length then (3, []) else (0, encL ls)) else (chk ls, [])
theorem body_succ (l : List ByteArray) (k : Nat) (hk : k < l.length) : body (l.take (k + 1)) = body (l.take k) ++ (wordL l[k].data.toList ++ [32]) := by
 unfold body; rw [List.take_succ_eq_append_getElem hk, List.flatMap_append]; simp
theorem encL_succ (ls : List (List ByteArray)) (k : Nat) (hk : k < ls.length) : encL (ls.take (k + 1)) = encL (ls.take k) ++ lineL ls[k] := by
 unfold encL; rw [List.take_succ_eq_append_getElem hk, List.flatMap_append]; simp
theorem wordL_pos (l : List UInt8) : 0 < (wordL l).length := by
 unfold wordL
 split
 ·simp
 ·rename_i h
  cases l with
  | nil => exact absurd rfl h
  | cons a t =>
    simp only [List.flatMap_cons, List.length_append]
    have : 0 < (encB a).length := by unfold encB; split <;> simp
    omega
theorem body_pos {l : List ByteArray} (h : 0 < l.length) : 0 < (body l).length := by
 cases l with
 | nil => cases h
 | cons a t => unfold body; simp only [List.flatMap_cons, List.length_append]; have := wordL_pos a.data.toList; omega
theorem body_last {l : List ByteArray} (h : 0 < l.length) : body l = (body l).dropLast ++ [32] := by
 obtain ⟨k, hk⟩ : ∃ k, l.length = k + 1 := ⟨l.length - 1, by omega⟩
 have e := body_succ l k (by omega)
 rw [List.take_of_length_le (by omega)] at e
 rw [e, ← List.append_assoc, List.dropLast_concat]
theorem body_mono (l : List ByteArray) (k : Nat) : (body (l.take k)).length ≤ (body l).length := by
 have e : body l = body (l.take k) ++ body (l.drop k) := by
  unfold body; rw [← List.flatMap_append, List.take_append_drop]
 rw [e, List.length_append]; omega
theorem encL_mono (ls : List (List ByteArray)) (k : Nat) : (encL (ls.take k)).length ≤ (encL ls).length := by
 have e : encL ls = encL (ls.take k) ++ encL (ls.drop k) := by
  unfold encL; rw [← List.flatMap_append, List.take_append_drop]
 rw [e, List.length_append]; omega
theorem lineL_length {l : List ByteArray} (h : 0 < l.length) : (lineL l).length = (body l).length := by
 unfold lineL; rw [body_last h]; simp
theorem set_last {xs bs : List UInt8} (h : 0 < bs.length) (c : UInt8) : (xs ++ bs).set (xs.length + bs.length - 1) c = xs ++ (bs.dropLast ++ [c]) := by
 rw [List.set_append_right _ _ (by omega)]
 congr 1
 have e : xs.length + bs.length - 1 - xs.length = bs.dropLast.length := by rw [List.length_dropLast]; omega
 obtain ⟨ys, y, rfl⟩ : ∃ ys y, bs = ys ++ [y] := ⟨bs.dropLast, bs.getLast (List.ne_nil_of_length_pos h), (List.dropLast_concat_getLast _).symm⟩
 rw [e, List.dropLast_concat, List.set_append_right _ _ (Nat.le_refl _), Nat.sub_self]
 rfl
def wordsOf (ls : List Ln) : List (List ByteArray) := ls.map Ln.l
theorem wordsOf_length (ls : List Ln) : (wordsOf ls).length = ls.length := by simp [wordsOf]
theorem wordsOf_get (ls : List Ln) (k : Nat) (hk : k < ls.length) : (wordsOf ls)[k]'(by rw [wordsOf_length]; exact hk) = ls[k].l := by simp [wordsOf]
def IdxRes (l : List ByteArray) (w : World) (e : Ending) (w' : World) : Prop := ∃ i : Int, e = .returned (.int .i64 i) ∧ Hid (decide (0 ≤ i) = l.any lng) ∧ w = w'
theorem any_take_succ (l : List ByteArray) (k : Nat) (hk : k < l.length) (h : (l.take k).any lng = false) (hc : lng l[k] = false) : (l.take (k + 1)).any lng = false := by
 rw [List.take_succ_eq_append_getElem hk, List.any_append, h]; simp [hc]
theorem any_of (l : List ByteArray) (k : Nat) (hk : k < l.length) (hc : lng l[k] = true) : l.any lng = true := List.any_eq_true.2 ⟨l[k], List.getElem_mem _, hc⟩
theorem indexFunc_any (sp : Option Addr) (n cap : Nat) (l : List ByteArray) (w : World) (hl : StrsIn w w.heap.size sp n l) (hmax : n ≤ 9223372036854775807) :
 Calls Tryz.prog 123 #[.slice sp n cap, .func (.func 102) #[] #[]] w (IdxRes l w) := by
 have HL := zh hl; clear hl
 go_enter Tryz.func123, Tryz.ntmps123
 go_wp2_with fail
 go_loop [8] (fun i => ∃ k : Nat, k ≤ n ∧ i = .int .i64 k ∧ Hid ((l.take k).any lng = false)) (fun i => n - (intOf i).toNat)
 case atStart => exact ⟨0, by omega, rfl, by show _ = false; simp⟩
 case round =>
  obtain ⟨k, hk, rfl, HA⟩ := hrel
  by_cases hlt : k < n
  ·obtain ⟨b, off, rfl, hb, hcell⟩ := HL.out.cells (by omega)
   have hk2 : k < l.length := by have := HL.out.len; omega
   have ck := hcell k hk2
   clear hcell
   have HN := zh (any_take_succ l k hk2 HA.out)
   have HY := zh (any_of l k hk2)
   have HD := zh (show lng l[k] = decide (32768 < (l[k]).size) from rfl)
   generalize l[k] = s at *
   cases hd : decide (32768 < s.size)
   ·rw [hd] at HD
    have HD2 := zh hd; clear hd
    go_wp2_with (go_at_call 102; refine (tooLong_any _ _).mono ?_; rintro e w' ⟨rfl, rfl⟩; rw [HD2.out])
    go_round
    case rel => exact ⟨k + 1, by omega, by go_num, HN.out HD.out⟩
    case measure => simp [intOf]; omega
   ·rw [hd] at HD
    have HD2 := zh hd; clear hd
    go_wp2_with (go_at_call 102; refine (tooLong_any _ _).mono ?_; rintro e w' ⟨rfl, rfl⟩; rw [HD2.out])
    go_ret
    exact ⟨(k : Int), rfl, by show _ = _; rw [HY.out HD.out]; simp, rfl⟩
  ·obtain rfl : k = n := by omega
   go_wp2
   go_ret
   exact ⟨-1, rfl, by show _ = _; rw [List.take_of_length_le (by rw [HL.out.len]; exact Nat.le_refl _)] at HA; rw [HA.out]; rfl, rfl⟩
theorem containsFunc_any (sp : Option Addr) (n cap : Nat) (l : List ByteArray) (w : World) (hl : StrsIn w w.heap.size sp n l) (hmax : n ≤ 9223372036854775807) :
 Calls Tryz.prog 101 #[.slice sp n cap, .func (.func 102) #[] #[]] w fun e w' => e = .returned (.bool (l.any lng)) ∧ w = w' := by
 have HC := zh (indexFunc_any sp n cap l w hl hmax)
 clear hl
 go_enter Tryz.func101, Tryz.ntmps101
 go_wp2_with (go_at_call 123; refine HC.out.mono ?_; rintro e w' ⟨i, rfl, hi, rfl⟩)
 go_ret
 exact ⟨ret_bool hi.out, rfl⟩
theorem chk_many {ls : List Ln} (h : 1000 < ls.length) : chk (wordsOf ls) = 3 := by unfold chk; rw [if_pos (by rw [wordsOf_length]; exact h)]
theorem chk_few {ls : List Ln} (h : ¬ 1000 < ls.length) : chk (wordsOf ls) = firstBad (wordsOf ls) := by unfold chk; rw [if_neg (by rw [wordsOf_length]; exact h)]
theorem chkLine_zero {l : List ByteArray} (h : l.length = 0) : chkLine l = 1 := by unfold chkLine; rw [if_pos h]
theorem chkLine_wide {l : List ByteArray} (h : 120 < l.length) : chkLine l = 3 := by unfold chkLine; rw [if_neg (by omega), if_pos (.inl h)]
theorem chkLine_long {l : List ByteArray} (h0 : l.length ≠ 0) (h : l.any lng = true) : chkLine l = 3 := by unfold chkLine; rw [if_neg h0, if_pos (.inr h)]
theorem chkLine_good {l : List ByteArray} (h0 : l.length ≠ 0) (h1 : ¬ 120 < l.length) (h : l.any lng = false) : chkLine l = 0 := by
 unfold chkLine; rw [if_neg h0, if_neg (by rw [h]; simp; omega)]
theorem checkLines_any (pa : Option Addr) (np ncap : Nat) (ls : List Ln) (w : World) (hp : LinesIn w w.heap.size pa np ls) (hmax : np ≤ 9223372036854775807) (hmax2 : ∀ q ∈ ls, q.n ≤ 9223372036854775807) :
 Calls Tryz.prog 61 #[.slice pa np ncap] w fun e w' => e = .returned (.int .i64 (chk (wordsOf ls))) ∧ w = w' := by
 have HP := zh hp; have HM := zh hmax2; clear hp hmax2
 have HLEN := zh HP.out.len
 by_cases hbig : 1000 < np
 ·have HC := zh (chk_many (ls := ls) (by rw [HLEN.out]; exact hbig))
  generalize chk (wordsOf ls) = r at *
  go_enter Tryz.func61, Tryz.ntmps61
  go_wp2
  go_ret
  exact ⟨ret_int (by rw [HC.out]; rfl), rfl⟩
 ·have HC := zh (chk_few (ls := ls) (by rw [HLEN.out]; exact hbig))
  generalize chk (wordsOf ls) = r at *
  go_enter Tryz.func61, Tryz.ntmps61
  go_wp2_with fail
  go_loop [10] (fun i => ∃ k : Nat, k ≤ np ∧ i = .int .i64 k ∧ Hid (firstBad ((wordsOf ls).take k) = 0)) (fun i => np - (intOf i).toNat)
  case atStart => exact ⟨0, by omega, rfl, by show _ = _; simp [firstBad]⟩
  case round =>
   obtain ⟨k, hk, rfl, HA⟩ := hrel
   by_cases hlt : k < np
   ·have hk2 : k < ls.length := by rw [HLEN.out]; exact hlt
    obtain ⟨pb, po, rfl, hpb, hcell⟩ := HP.out.cells (by omega)
    have ck : w.cell? ⟨pb, po + k, none⟩ = some (.slice ls[k].sp ls[k].n ls[k].cap) := hcell k hk2
    have HE := zh (HP.out.each _ (List.getElem_mem hk2))
    have hmx := HM.out _ (List.getElem_mem hk2)
    have hfb := firstBad_take (wordsOf ls) k (by rw [wordsOf_length]; exact hk2) HA.out
    rw [wordsOf_get ls k hk2] at hfb
    have HF := zh hfb
    have hl := HE.out.len
    clear hcell hfb
    generalize ls[k].sp = sp at *
    generalize ls[k].n = n at *
    generalize ls[k].cap = cap at *
    generalize ls[k].l = l at *
    have HLL := zh hl; clear hl
    by_cases h0 : n = 0
    ·subst h0
     have HK := zh (chkLine_zero HLL.out)
     go_wp2_with fail
     go_ret
     exact ⟨ret_int (by rw [HC.out, HF.out.2 (by rw [HK.out]; decide), HK.out]; rfl), rfl⟩
    ·have h0b : ((n : Int) == 0) = false := beq_eq_false_iff_ne.2 (by omega)
     by_cases h1 : 120 < n
     ·have HK := zh (chkLine_wide (l := l) (by rw [HLL.out]; exact h1))
      clear h0
      go_wp2_with fail
      go_ret
      exact ⟨ret_int (by rw [HC.out, HF.out.2 (by rw [HK.out]; decide), HK.out]; rfl), rfl⟩
     ·cases ha : l.any lng
      ·have HK := zh (chkLine_good (l := l) (by rw [HLL.out]; exact h0) (by rw [HLL.out]; exact h1) ha)
       have HA2 := zh ha; clear ha h0
       go_wp2_with (go_at_call 101; refine (containsFunc_any _ _ _ l _ HE.out hmx).mono ?_; rintro e w' ⟨rfl, rfl⟩; rw [HA2.out])
       go_round
       case rel => exact ⟨k + 1, by omega, by go_num, HF.out.1 HK.out⟩
       case measure => simp [intOf]; omega
      ·have HK := zh (chkLine_long (l := l) (by rw [HLL.out]; exact h0) ha)
       have HA2 := zh ha; clear ha h0
       go_wp2_with (go_at_call 101; refine (containsFunc_any _ _ _ l _ HE.out hmx).mono ?_; rintro e w' ⟨rfl, rfl⟩; rw [HA2.out])
       go_ret
       exact ⟨ret_int (by rw [HC.out, HF.out.2 (by rw [HK.out]; decide), HK.out]; rfl), rfl⟩
   ·obtain rfl : k = np := by omega
    go_wp2
    go_ret
    exact ⟨ret_int (by rw [HC.out]; rw [List.take_of_length_le (by rw [wordsOf_length, HLEN.out]; exact Nat.le_refl _)] at HA; rw [HA.out]; rfl), rfl⟩
def EncRes (w : World) (ls : List (List ByteArray)) (e : Ending) (w' : World) : Prop :=
 ∃ v, e = .returned (.tuple #[v, .int .i64 ((enc ls).1 : Nat)]) ∧ Hid (w'.ownsRow w.heap.size 5 1 v (enc ls).2.length (Lib.byteCells (enc ls).2)) ∧ Below w.heap.size w w'
theorem own_shape {w : World} {base e size : Nat} {v : Value} {n : Nat} {xs : List Value} (h : w.ownsRow base e size v n xs) : ∃ sp cap, v = .slice sp n cap := by
 obtain ⟨_, ⟨rfl, rfl⟩ | ⟨g, cap, cur, rfl, _⟩⟩ := h
 ·exact ⟨none, 0, rfl⟩
 ·exact ⟨_, cap, rfl⟩
theorem wordsOf_get? (ls : List Ln) : ∀ (k : Nat) (hk : k < ls.length), (wordsOf ls)[k]? = some ls[k].l := fun k hk => by simp [wordsOf, List.getElem?_eq_getElem hk]
theorem encL_next {wl : List (List ByteArray)} {k : Nat} {l : List ByteArray} (h : wl[k]? = some l) : encL (wl.take (k + 1)) = encL (wl.take k) ++ lineL l := by
 obtain ⟨hk, rfl⟩ := List.getElem?_eq_some_iff.1 h
 exact encL_succ wl k hk
theorem chk_ok {wl : List (List ByteArray)} (h : chk wl = 0) : wl.length ≤ 1000 ∧ ∀ l ∈ wl, chkLine l = 0 := by
 unfold chk at h
 by_cases h1 : 1000 < wl.length
 ·rw [if_pos h1] at h; cases h
 ·rw [if_neg h1] at h; exact ⟨by omega, firstBad_all h⟩
theorem chk_line {wl : List (List ByteArray)} {k : Nat} {l : List ByteArray} (h : chk wl = 0) (hk : wl[k]? = some l) : 0 < l.length ∧ l.length ≤ 120 ∧ ∀ s ∈ l, s.size ≤ 32768 :=
 chkLine_ok ((chk_ok h).2 l (List.mem_of_getElem? hk))
theorem enc_bad {ls : List (List ByteArray)} (h : chk ls ≠ 0) : enc ls = (chk ls, []) := by unfold enc; rw [if_neg h]
theorem enc_much {ls : List (List ByteArray)} (h : chk ls = 0) (h2 : 262144 < (encL ls).length) : enc ls = (3, []) := by unfold enc; rw [if_pos h, if_pos h2]
theorem enc_good {ls : List (List ByteArray)} (h : chk ls = 0) (h2 : ¬ 262144 < (encL ls).length) : enc ls = (0, encL ls) := by unfold enc; rw [if_pos h, if_neg h2]
theorem Encode_any (pa : Option Addr) (np ncap : Nat) (ls : List Ln) (w : World) (hp : LinesIn w w.heap.size pa np ls) (hmax : np ≤ 9223372036854775807) (hmax2 : ∀ q ∈ ls, q.n ≤ 9223372036854775807) :
 Calls Tryz.prog 41 #[.slice pa np ncap] w (EncRes w (wordsOf ls)) := by
 have HCK := zh (checkLines_any pa np ncap ls w hp hmax hmax2)
 have HP := zh hp; have HM := zh hmax2; clear hp hmax2
 obtain ⟨i0, hi0, hz0, hz1, hz2⟩ := info_parts Tryz.info5
 have HI0 := zh hi0; have HZ0 := zh hz0; have HZ1 := zh hz1; have HZ2 := zh hz2
 clear hi0 hz0 hz1 hz2
 by_cases hc : chk (wordsOf ls) = 0
 ·have HE1 := zh (enc_much hc)
  have HE2 := zh (enc_good hc)
  rw [hc] at HCK
  have HC := zh hc; clear hc
  have HLEN := zh HP.out.len
  have HL2 := zh (wordsOf_length ls)
  have HGET := zh (wordsOf_get? ls)
  generalize hwl : wordsOf ls = wl at *
  clear hwl
  go_enter Tryz.func41, Tryz.ntmps41
  go_wp2_with fail
  go_step3
  go_wp2_with (go_at_call 61; refine HCK.out.mono ?_; rintro e w' ⟨rfl, rfl⟩)
  go_step3
  go_wp2_with fail
  go_loopg [5, 17] np (fun g b i wx => ∃ k : Nat, k + g = np ∧ i = .int .i64 k ∧ ∃ sp cap, b = .slice sp (encL (wl.take k)).length cap ∧ Hid (wx.ownsRow w.heap.size 5 1 (.slice sp (encL (wl.take k)).length cap) (encL (wl.take k)).length (Lib.byteCells (encL (wl.take k)))) ∧ (encL (wl.take k)).length ≤ 262144 ∧ Below w.heap.size w wx)
  case atStart => exact ⟨0, by omega, rfl, none, 0, by simp [encL], by show World.ownsRow _ _ _ _ _ _ _; simp [encL]; exact World.ownsRow_nil _ _ _ _, by simp [encL], Below.refl _ _⟩
  case round =>
   obtain ⟨k, hg, rfl, sp, cap, rfl, hown, hle, hbe⟩ := hrel
   by_cases hlt : k < np
   ·have hk2 : k < ls.length := by have := HLEN.out; omega
    obtain ⟨pb, po, rfl, hpb, hcell⟩ := HP.out.cells (by omega)
    have ck : wr.cell? ⟨pb, po + k, none⟩ = some (.slice ls[k].sp ls[k].n ls[k].cap) := (hbe.cell (p := ⟨pb, po + k, none⟩) hpb).trans (hcell k hk2)
    have HE := zh (HP.out.each _ (List.getElem_mem hk2))
    have HLK := zh (HGET.out k hk2)
    have hmx := HM.out _ (List.getElem_mem hk2)
    clear hcell
    generalize ls[k].sp = lsp at *
    generalize ls[k].n = n at *
    generalize ls[k].cap = lcap at *
    generalize ls[k].l = l at *
    obtain ⟨hpos, h120, hsz⟩ := chk_line HC.out HLK.out
    have HSZ := zh hsz; clear hsz
    obtain rfl := HE.out.len
    have HNX := zh (encL_next HLK.out)
    have HMO := zh (encL_mono wl (k + 1))
    generalize encL (wl.take k) = X at *
    go_wp2_with fail
    go_loopg [5, 23] l.length (fun g b i wy => ∃ j : Nat, j + g = l.length ∧ i = .int .i64 j ∧ ∃ sp cap, b = .slice sp (X ++ body (l.take j)).length cap ∧ Hid (wy.ownsRow w.heap.size 5 1 (.slice sp (X ++ body (l.take j)).length cap) (X ++ body (l.take j)).length (Lib.byteCells (X ++ body (l.take j)))) ∧ (X ++ body (l.take j)).length ≤ 262144 ∧ Below w.heap.size w wy)
    case atStart => exact ⟨0, by omega, rfl, sp, cap, by simp [body], by show World.ownsRow _ _ _ _ _ _ _; simpa [body] using hown.out, by simpa [body] using hle, hbe⟩
    case round =>
     clear hown hbe ck
     obtain ⟨j, hg2, rfl, sp2, cap2, rfl, hown, hle2, hbe⟩ := hrel
     have hbs := hbe.size
     by_cases hj : j < l.length
     ·obtain ⟨sb, so, rfl, hsb, hsc⟩ := HE.out.cells (by omega)
      have cw : wr.cell? ⟨sb, so + j, none⟩ = some (.string l[j]) := (hbe.cell (p := ⟨sb, so + j, none⟩) hsb).trans (hsc j hj)
      have hs1 : l[j].size ≤ 32768 := HSZ.out _ (List.getElem_mem hj)
      have HB := zh (body_succ l j hj)
      have HBM := zh (body_mono l (j + 1))
      clear hsc
      generalize l[j] = s at *
      have hw1 := wordL_le s.data.toList
      rw [← Lib.size_eq] at hw1
      have HA : Hid (X ++ body (l.take (j + 1)) = (X ++ body (l.take j)) ++ (wordL s.data.toList ++ [32])) := by show _ = _; rw [HB.out, List.append_assoc]
      generalize X ++ body (l.take j) = Y at *
      by_cases hbig : 262144 < (Y ++ (wordL s.data.toList ++ [32])).length
      ·simp only [List.length_append, List.length_cons, List.length_nil] at hbig
       go_wp2_with fail
       refine (appendWord_any w.heap.size _ Y s wr hown.out hbs (by omega)).mono ?_
       rintro e w2 ⟨v2, rfl, hown2, hbe2⟩
       have hs2 := hbe2.size
       have hzb : (262144 : Int) ≤ (((Y ++ wordL s.data.toList).length : Nat) : Int) := by rw [List.length_append]; omega
       have hzc : (((Y ++ wordL s.data.toList).length : Nat) : Int) ≤ 1048576 := by rw [List.length_append]; omega
       have HZ : Hid (Y ++ (wordL s.data.toList ++ [32]) = (Y ++ wordL s.data.toList) ++ [32]) := by show _ = _; rw [List.append_assoc]
       generalize Y ++ wordL s.data.toList = Z at *
       clear hbig hw1 hle2
       go_upto_region 12 with (at_builtin; refine wpList_append_own _ rfl (.tmp 29) (.tmp 30) 22 rfl w.heap.size 5 i0 (.int .u8 0) 1 1 Tryz.underlying22 HI0.out HZ0.out HZ1.out HZ2.out rfl (by decide) _ _ _ rfl (hown2.out.alloc _) ⟨w2.heap.size, 0, none⟩ 1 1 [.int .u8 32] rfl rfl (cell_one_new _ _ _) (by intro u hu; simp at hu; subst hu; rfl) (by unfold maxLen; omega) (by omega) (by simp; omega) ?_; intro v3 w3 hown3 hg3 _; obtain ⟨sp3, cap3, rfl⟩ := own_shape hown3; have HO3 := zh hown3; clear hown3)
       have hd1 : decide ((Z.length : Int) + 1 > 262144) = true := decide_eq_true (by omega)
       have hd2 : decide (262144 < (Z.length : Int) + 1) = true := decide_eq_true (by omega)
       have hd3 : decide (262144 ≤ (Z.length : Int)) = true := decide_eq_true (by omega)
       go_wp2
       rw [Exit.noGoto_ret]
       go_ret2
       have hfin : enc wl = (3, []) := by
        refine HE1.out ?_
        have h1 := HMO.out
        rw [HNX.out, List.length_append, lineL_length hpos] at h1
        have h2 := congrArg List.length HA.out
        rw [HZ.out] at h2
        simp only [List.length_append, List.length_cons, List.length_nil] at h2
        have h3 := HBM.out
        omega
       exact ⟨.slice none 0 0, by rw [hfin]; rfl, by rw [hfin]; exact World.ownsRow_nil _ _ _ _, (hbe.trans hbe2).alloc (by omega) _ |>.grown hg3 (by simp; omega) (own_base hown2.out)⟩
      ·simp only [List.length_append, List.length_cons, List.length_nil] at hbig
       go_wp2_with fail
       refine (appendWord_any w.heap.size _ Y s wr hown.out hbs (by omega)).mono ?_
       rintro e w2 ⟨v2, rfl, hown2, hbe2⟩
       have hs2 := hbe2.size
       have hzb : (((Y ++ wordL s.data.toList).length : Nat) : Int) ≤ 262143 := by rw [List.length_append]; omega
       have HZ : Hid (Y ++ (wordL s.data.toList ++ [32]) = (Y ++ wordL s.data.toList) ++ [32]) := by show _ = _; rw [List.append_assoc]
       generalize Y ++ wordL s.data.toList = Z at *
       clear hbig hw1 hle2
       go_upto_region 12 with (at_builtin; refine wpList_append_own _ rfl (.tmp 29) (.tmp 30) 22 rfl w.heap.size 5 i0 (.int .u8 0) 1 1 Tryz.underlying22 HI0.out HZ0.out HZ1.out HZ2.out rfl (by decide) _ _ _ rfl (hown2.out.alloc _) ⟨w2.heap.size, 0, none⟩ 1 1 [.int .u8 32] rfl rfl (cell_one_new _ _ _) (by intro u hu; simp at hu; subst hu; rfl) (by unfold maxLen; omega) (by omega) (by simp; omega) ?_; intro v3 w3 hown3 hg3 _; obtain ⟨sp3, cap3, rfl⟩ := own_shape hown3; have HO3 := zh hown3; clear hown3)
       have hd1 : decide ((Z.length : Int) + 1 > 262144) = false := decide_eq_false (by omega)
       have hd2 : decide (262144 < (Z.length : Int) + 1) = false := decide_eq_false (by omega)
       have hd3 : decide (262144 ≤ (Z.length : Int)) = false := decide_eq_false (by omega)
       go_wp2
       go_roundg (l.length - (j + 1))
       case measure => omega
       case rel =>
        refine ⟨j + 1, by omega, by go_num, sp3, cap3, ?_, ?_, ?_, ?_⟩
        ·rw [HA.out, HZ.out]; simp
        ·rw [HA.out, HZ.out]
         have := HO3.out
         show World.ownsRow _ _ _ _ _ _ _
         simpa [Lib.byteCells_append, Lib.byteCells, Nat.add_assoc] using this
        ·rw [HA.out, HZ.out]; simp only [List.length_append, List.length_cons, List.length_nil]; omega
        ·exact (hbe.trans hbe2).alloc (by omega) _ |>.grown hg3 (by simp; omega) (own_base hown2.out)
     ·obtain rfl : j = l.length := by omega
      rw [List.take_of_length_le (Nat.le_refl _)] at hown hle2
      rw [List.take_of_length_le (Nat.le_refl _)]
      have hbp := body_pos hpos
      have hll := lineL_length hpos
      have HSL := zh (set_last (xs := X) hbp 10)
      have HLL : Hid (lineL l = (body l).dropLast ++ [10]) := rfl
      have hyl : (X ++ body l).length = X.length + (body l).length := List.length_append
      obtain ⟨m, hm⟩ : ∃ m, (X ++ body l).length = m + 1 := ⟨X.length + (body l).length - 1, by omega⟩
      have HLN : Hid ((X ++ lineL l).length = m + 1) := by show _ = _; rw [List.length_append, hll]; omega
      have HM1 : Hid (X.length + (body l).length - 1 = m) := by show _ = _; omega
      rw [hm] at hown hle2
      rw [hm]
      generalize X ++ body l = Y at *
      rcases cells_of_own (l := Y) (by rw [hm]; exact hown.out) with ⟨_, hnil⟩ | ⟨g, capg, hv, hgB, _, hcg⟩
      ·rw [hnil] at hm; simp at hm
      ·have hsp : sp2 = some ⟨g, 0, none⟩ := by injection hv
       subst hsp
       obtain ⟨ym, hcm⟩ : ∃ z : Int, wr.cell? ⟨g, m, none⟩ = some (.int .u8 z) := ⟨_, hcg m (by omega)⟩
       have hfm := hown.out.frozenAt m
       have HST := zh (hown.out.stored m (.int .u8 10))
       clear hv hcg hm hyl hll hbp
       go_wp2
       go_roundg (np - (k + 1))
       case measure => omega
       case rel =>
        refine ⟨k + 1, by omega, by go_num, some ⟨g, 0, none⟩, cap2, ?_, ?_, ?_, ?_⟩
        ·rw [HNX.out, HLN.out]
        ·rw [HNX.out, HLN.out]
         have e : (Lib.byteCells Y).set m (.int .u8 10) = Lib.byteCells (X ++ lineL l) := by
          rw [HLL.out, ← HSL.out, HM1.out]; simp [Lib.byteCells]
         have := HST.out.1
         rw [e] at this
         exact this
        ·rw [HNX.out, HLN.out]; exact hle2
        ·exact hbe.setCell hgB _
   ·obtain rfl : k = np := by omega
    have hall : encL (wl.take k) = encL wl := by rw [List.take_of_length_le (by rw [HL2.out, HLEN.out]; exact Nat.le_refl _)]
    rw [hall] at hown hle
    rw [hall]
    have HE := zh (HE2.out (by omega))
    clear hall
    generalize encL wl = X at *
    have hd1 : decide ((X.length : Int) > 262144) = false := decide_eq_false (by omega)
    have hd2 : decide (262144 < (X.length : Int)) = false := decide_eq_false (by omega)
    go_wp2_with fail
    rw [Exit.noGoto_ret]
    go_ret2
    exact ⟨_, by rw [HE.out]; rfl, by rw [HE.out]; exact hown, hbe⟩
 ·have HE := zh (enc_bad hc)
  have hc2 : (((chk (wordsOf ls) : Nat) : Int) != 0) = true := by rw [bne_iff_ne]; omega
  generalize wordsOf ls = wl at *
  generalize chk wl = r at *
  have HC := zh hc; clear hc
  go_enter Tryz.func41, Tryz.ntmps41
  go_wp2_with (go_at_call 61; refine HCK.out.mono ?_; rintro e w' ⟨rfl, rfl⟩)
  go_step3
  go_wp2_with (go_at_call 61; refine HCK.out.mono ?_; rintro e w' ⟨rfl, rfl⟩)
  rw [Exit.noGoto_ret]
  go_ret2
  exact ⟨.slice none 0 0, by rw [HE.out]; rfl, by rw [HE.out]; exact World.ownsRow_nil _ _ _ _, Below.refl _ _⟩
def nmc (c : UInt8) : Bool := ldB c.toNat || (c == 46 || c == 95 || c == 45)
def nmB (l : List UInt8) : Bool := decide (l.length ≤ 64) && ((match l with | c :: _ => ldB c.toNat | [] => false) && l.all nmc)
theorem byteOf (c : UInt8) : ((c.toNat : Int)).toNat.toUInt8 = c := by simp
theorem dots (c : UInt8) : decide (Lib.indexByte [46, 95, 45] c < 0) = !(c == 46 || c == 95 || c == 45) := by
 unfold Lib.indexByte Lib.indexByte Lib.indexByte Lib.indexByte
 by_cases h1 : c = 46
 ·subst h1; rfl
 ·by_cases h2 : c = 95
  ·subst h2; rfl
  ·by_cases h3 : c = 45
   ·subst h3; rfl
   ·have e1 : ((46 : UInt8) == c) = false := by simpa using fun h => h1 h.symm
    have e2 : ((95 : UInt8) == c) = false := by simpa using fun h => h2 h.symm
    have e3 : ((45 : UInt8) == c) = false := by simpa using fun h => h3 h.symm
    simp [e1, e2, e3, h1, h2, h3]
theorem nmc_of_dots {c : UInt8} (h : ldB c.toNat = false) : nmc c = !decide (Lib.indexByte [46, 95, 45] c < 0) := by
 rw [dots]; unfold nmc; rw [h]; simp
theorem nmc_of_ld {c : UInt8} (h : ldB c.toNat = true) : nmc c = true := by unfold nmc; rw [h]; rfl
theorem data_take_succ (s : ByteArray) (k : Nat) (h : k < s.size) : s.data.toList.take (k + 1) = s.data.toList.take k ++ [s[k]] := by
 rw [List.take_succ_eq_append_getElem (by simpa using h)]; rfl
theorem data_all (s : ByteArray) (k : Nat) (h : s.size ≤ k) : s.data.toList.take k = s.data.toList := List.take_of_length_le (by rw [← Lib.size_eq]; exact h)
theorem data_cons (s : ByteArray) (h : 0 < s.size) : ∃ t, s.data.toList = s[0] :: t := by
 have h' : 0 < s.data.toList.length := by rw [← Lib.size_eq]; exact h
 cases hl : s.data.toList with
 | nil => rw [hl] at h'; simp at h'
 | cons a t =>
   refine ⟨t, ?_⟩
   have : s[0] = s.data.toList[0] := rfl
   rw [this]; simp [hl]
theorem nmB_head {s : ByteArray} (h : 0 < s.size) (h64 : s.size ≤ 64) : nmB s.data.toList = (ldB (s[0].toNat) && s.data.toList.all nmc) := by
 have h' : s.data.toList.length ≤ 64 := by rw [← Lib.size_eq]; exact h64
 obtain ⟨t, ht⟩ := data_cons s h
 unfold nmB
 rw [decide_eq_true h', ht]
 simp
theorem nmB_empty {s : ByteArray} (h : s.size = 0) : nmB s.data.toList = false := by
 have : s.data.toList = [] := List.eq_nil_of_length_eq_zero (by rw [← Lib.size_eq]; exact h)
 rw [this]; rfl
theorem nmB_long {s : ByteArray} (h : 64 < s.size) : nmB s.data.toList = false := by
 unfold nmB
 rw [decide_eq_false (by rw [← Lib.size_eq]; omega)]; rfl
theorem all_false_of {s : ByteArray} {k : Nat} (h : k < s.size) (hc : nmc s[k] = false) : s.data.toList.all nmc = false := by
 rw [Bool.eq_false_iff]; intro ha
 have := List.all_eq_true.1 ha s[k] (by have : s[k] = s.data.toList[k]'(by simpa using h) := rfl
                                        rw [this]; exact List.getElem_mem _)
 rw [hc] at this; cases this
theorem Name_any (s : ByteArray) (w : World) (hs : s.size ≤ maxLen) :
 Calls Tryz.prog 68 #[.string s] w fun e w' => e = .returned (.bool (nmB s.data.toList)) ∧ w = w' := by
 unfold maxLen at hs
 by_cases h0 : s.size = 0
 ·have hn := nmB_empty h0
  generalize nmB s.data.toList = r at *
  have e0 : s.toList = [] := by rw [Lib.toList_data]; exact List.eq_nil_of_length_eq_zero (by rw [← Lib.size_eq]; exact h0)
  have HN := zh hn; clear hn
  go_enter Tryz.func68, Tryz.ntmps68
  go_wp2
  go_ret
  exact ⟨ret_bool HN.out.symm, rfl⟩
 ·have e0 : s.toList.isEmpty = false := by
   rw [Lib.toList_data, List.isEmpty_eq_false_iff]
   intro h; rw [Lib.size_eq, h] at h0; simp at h0
  have H0 : 0 < s.size := by omega
  by_cases h64 : 64 < s.size
  ·have HN := zh (nmB_long h64)
   generalize nmB s.data.toList = r at *
   go_enter Tryz.func68, Tryz.ntmps68
   go_wp2
   go_ret
   exact ⟨ret_bool HN.out.symm, rfl⟩
  ·have HN := zh (nmB_head H0 (by omega))
   generalize nmB s.data.toList = r at *
   cases hld : ldB (s[0].toNat)
   ·rw [hld] at HN
    have HL := zh hld; clear hld
    go_enter Tryz.func68, Tryz.ntmps68
    go_wp2_with (go_at_call 105; refine (letterOrDigit_any _ _).mono ?_; rintro e w' ⟨rfl, rfl⟩; rw [HL.out])
    go_ret
    exact ⟨ret_bool (by rw [HN.out]; rfl), rfl⟩
   ·rw [hld] at HN
    have HL := zh hld; clear hld
    go_enter Tryz.func68, Tryz.ntmps68
    go_wp2_with (go_at_call 105; refine (letterOrDigit_any _ _).mono ?_; rintro e w' ⟨rfl, rfl⟩; rw [HL.out])
    go_loop [19] (fun i => ∃ k : Nat, k ≤ s.size ∧ i = .int .i64 k ∧ Hid ((s.data.toList.take k).all nmc = true)) (fun i => s.size - (intOf i).toNat)
    case atStart => exact ⟨0, by omega, rfl, rfl⟩
    case round =>
     obtain ⟨k, hk, rfl, HA⟩ := hrel
     by_cases hlt : k < s.size
     ·have HS := zh (data_take_succ s k hlt)
      cases hl : ldB (s[k].toNat)
      ·have HK := zh (nmc_of_dots hl)
       have HL2 := zh hl; clear hl
       cases hd : decide (Lib.indexByte [46, 95, 45] s[k] < 0)
       ·rw [hd] at HK
        have hd2 : ¬ Lib.indexByte [46, 95, 45] s[k] < 0 := of_decide_eq_false hd
        clear hd
        go_wp2_with (first | (go_at_call 105; refine (letterOrDigit_any _ _).mono ?_; rintro e w' ⟨rfl, rfl⟩; rw [HL2.out]) | (go_at_call 106; refine (indexByte_any _ _ _).mono ?_; rintro e w' ⟨rfl, rfl⟩; rw [byteOf]))
        go_round
        case rel => exact ⟨k + 1, by omega, by go_num, by show _ = true; rw [HS.out, List.all_append, HA.out]; simp [HK.out]⟩
        case measure => simp [intOf]; omega
       ·rw [hd] at HK
        have hd2 : Lib.indexByte [46, 95, 45] s[k] < 0 := of_decide_eq_true hd
        clear hd
        go_wp2_with (first | (go_at_call 105; refine (letterOrDigit_any _ _).mono ?_; rintro e w' ⟨rfl, rfl⟩; rw [HL2.out]) | (go_at_call 106; refine (indexByte_any _ _ _).mono ?_; rintro e w' ⟨rfl, rfl⟩; rw [byteOf]))
        go_ret
        exact ⟨ret_bool (by rw [HN.out, all_false_of hlt HK.out]; rfl), rfl⟩
      ·have HK := zh (nmc_of_ld hl)
       have HL2 := zh hl; clear hl
       go_wp2_with (go_at_call 105; refine (letterOrDigit_any _ _).mono ?_; rintro e w' ⟨rfl, rfl⟩; rw [HL2.out])
       go_round
       case rel => exact ⟨k + 1, by omega, by go_num, by show _ = true; rw [HS.out, List.all_append, HA.out]; simp [HK.out]⟩
       case measure => simp [intOf]; omega
     ·go_wp2
      go_ret
      exact ⟨ret_bool (by rw [HN.out, ← data_all s k (by omega), HA.out]; rfl), rfl⟩
theorem own_apart {w : World} {b1 b2 e1 e2 s1 s2 : Nat} {v1 v2 : Value} {n1 n2 : Nat} {x1 x2 : List Value} (h1 : w.ownsRow b1 e1 s1 v1 n1 x1) (h2 : w.ownsRow b2 e2 s2 v2 n2 x2) (hne : e1 ≠ e2) : v1.ownBlock = none ∨ v1.ownBlock ≠ v2.ownBlock := by
 obtain ⟨_, ⟨rfl, _⟩ | ⟨g1, c1, u1, rfl, _, g1h, _⟩⟩ := h1
 ·exact .inl rfl
 ·obtain ⟨_, ⟨rfl, _⟩ | ⟨g2, c2, u2, rfl, _, g2h, _⟩⟩ := h2
  ·exact .inr (by simp [Value.ownBlock])
  ·refine .inr (fun e => hne ?_)
   have e' : g1 = g2 := by simpa [Value.ownBlock] using e
   subst e'
   rw [g1h] at g2h
   injection g2h with g2h
   injection g2h
theorem infoLn : (Tryz.prog.info? 27).map (fun i => (i.zero, i.size, i.bytes)) = some (some (.slice none 0 0), 1, 24) := by kernel_rfl
theorem wpList_append_ln {P : Program} {w : World} {ops : Array Oper} {rest : List Oper} {o : Oper} {a : Act} {Q : Exit → Act → World → Prop} (hgd : o.guard = none) (s x : Operand) (t e : TypeId)
 (ho : o.op = .call { callee := .builtin .append, args := #[s, x], argTypes := #[t, t] }) (ht : P.underlying t = some (.slice e)) (hi : (P.info? e).map (fun i => (i.zero, i.size, i.bytes)) = some (some (.slice none 0 0), 1, 24))
 (base : Nat) (v : Value) (xs : List Ln) (n : Nat) (hs : a.eval s = v) (hn : n = xs.length) (hown : w.ownsRow base e 1 v n (xs.map Ln.val))
 (g : Nat) (y : Ln) (hx : a.eval x = .slice (some ⟨g, 0, none⟩) 1 1) (hc : w.cell? ⟨g, 0, none⟩ = some y.val)
 (hlen : n ≤ 100000000) (hbase : base ≤ w.heap.size)
 (h : ∀ sp cap w', Hid (w'.ownsRow base e 1 (.slice sp (n + 1) cap) (n + 1) ((xs ++ [y]).map Ln.val)) → w.grownBy w' v.ownBlock → wpList P ops Q rest (a.put o.dst (.slice sp (n + 1) cap)) w') : wpList P ops Q (o :: rest) a w := by
 obtain ⟨i0, hi0, hz0, hz1, hz2⟩ := info_parts hi
 refine wpList_append_own w hgd s x t ho base e i0 _ 1 24 ht hi0 hz0 hz1 hz2 rfl (by decide) v n _ hs hown ⟨g, 0, none⟩ 1 1 [y.val] hx rfl ?_ (by intro u hu; simp at hu; subst hu; rfl) (by unfold maxLen; omega) (by omega) hbase ?_
 ·intro j u hj
  have hj0 : j = 0 := by have := (List.getElem?_eq_some_iff.1 hj).1; simp at this; omega
  subst hj0
  simp at hj; subst hj; rw [Addr.add_mid]; exact hc
 ·intro v' w' h1 h2 _
  obtain ⟨sp, cap, rfl⟩ := own_shapeD h1
  exact h sp cap w' (by show World.ownsRow _ _ _ _ _ _ _; rw [List.map_append]; exact h1) h2
def LnOwn (w : World) (base : Nat) (q : Ln) : Prop := w.ownsRow base 9 1 (.slice q.sp q.n q.cap) q.n (q.l.map Value.string)
def unlL : List ByteArray → Option (List (List ByteArray))
 | [] => some []
 | s :: r => match unwsL (pcs 32 s) with
   | none => none
   | some x => (unlL r).map (x :: ·)
theorem unlL_none {s : ByteArray} {r : List ByteArray} (h : unwsL (pcs 32 s) = none) : unlL (s :: r) = none := by rw [unlL, h]
theorem unlL_some {s : ByteArray} {x : List ByteArray} {r : List ByteArray} (h : unwsL (pcs 32 s) = some x) : unlL (s :: r) = (unlL r).map (x :: ·) := by rw [unlL, h]
def ConvL (w : World) (r : Option (List (List ByteArray))) (e : Ending) (w' : World) : Prop := match r with
 | none => e = .returned (.tuple #[.slice none 0 0, .bool false]) ∧ Below w.heap.size w w'
 | some L => ∃ (sp : Option Addr) (cap : Nat) (ls : List Ln), wordsOf ls = L ∧ e = .returned (.tuple #[.slice sp ls.length cap, .bool true]) ∧ w'.ownsRow w.heap.size 27 1 (.slice sp ls.length cap) ls.length (ls.map Ln.val) ∧ (∀ q ∈ ls, LnOwn w' w.heap.size q) ∧ Below w.heap.size w w'
theorem convL_none {w : World} {r : Option (List (List ByteArray))} {e : Ending} {w' : World} (h : r = none) (he : e = .returned (.tuple #[.slice none 0 0, .bool false])) (hb : Below w.heap.size w w') : ConvL w r e w' := by unfold ConvL; rw [h]; exact ⟨he, hb⟩
theorem convLs_any (g n : Nat) (ws : List ByteArray) (w : World) (hn : ws.length = n) (hn2 : n ≤ 10000001) (hg : g < w.heap.size) (hrow : ∀ j, j < n → w.cell? ⟨g, j, none⟩ = some (.string (ws.getD j ByteArray.empty))) (hsz : ∀ x ∈ ws, x.size ≤ 10000000) :
 Calls Tryz.prog 99 #[.slice (some ⟨g, 0, none⟩) n n, .func (.func 100) #[] #[]] w (ConvL w (unlL ws)) := by
 have HN := zh hn; have HROW := zh hrow; have HSZ := zh hsz
 obtain ⟨i0, hi0, hz0, hz1, hz2⟩ := info_parts infoLn
 clear hn hrow hsz
 go_enter Tryz.func99, Tryz.ntmps99
 go_wp2_with (refine wpList_make_own w rfl _ _ 59 rfl w.heap.size 27 i0 _ 1 Tryz.underlying59 hi0 hz0 hz1 .i64 .i64 (n : Int) n rfl rfl rfl (by rw [hz2]; omega) (by unfold maxLen; omega) (Nat.le_refl _) ?_; intro w1 hown1 hg1)
 have HB1 := zh ((Below.refl w.heap.size w).grown hg1 (Nat.le_refl _) (fun k e => by cases e))
 have HO1 := zh hown1
 clear hg1 hown1 hi0 hz0 hz1 hz2
 go_loopw [6, 16] (fun v i wr => ∃ (k : Nat) (done : List Ln) (sp : Option Addr) (cap : Nat), k ≤ n ∧ i = .int .i64 k ∧ Hid (k = done.length) ∧ v = .slice sp k cap ∧ Hid (unlL ws = (unlL (ws.drop k)).map (wordsOf done ++ ·)) ∧ Hid (wr.ownsRow w.heap.size 27 1 (.slice sp k cap) k (done.map Ln.val)) ∧ Hid (∀ q ∈ done, LnOwn wr w.heap.size q) ∧ Hid (Below w.heap.size w wr)) (fun _ i _ => n - (intOf i).toNat)
 case atStart => exact ⟨0, [], _, _, Nat.zero_le _, rfl, rfl, rfl, by show _ = _; simp [wordsOf], HO1.out, (fun q hq => by cases hq), HB1.out⟩
 case round =>
  clear HO1 HB1
  obtain ⟨k, done, sp, cap, hk, rfl, HK, rfl, HR, hown, hea, hbe⟩ := hrel
  have hbs := hbe.out.size
  by_cases hlt : k < n
  ·have hd : decide ((k : Int) < (n : Int)) = true := by simp; omega
   have p1 : (0 : Int) ≤ (k : Int) := by omega
   have p2 : (k : Int) < (n : Int) := by omega
   have hlw : k < ws.length := by rw [HN.out]; exact hlt
   have c1 := (hbe.out.cell (p := ⟨g, k, none⟩) hg).trans (HROW.out k hlt)
   have hge : ws.getD k ByteArray.empty = ws[k] := by rw [List.getD_eq_getElem?_getD, List.getElem?_eq_getElem hlw]; rfl
   rw [hge] at c1
   have hdr : ws.drop k = ws[k] :: ws.drop (k + 1) := List.drop_eq_getElem_cons hlw
   have hc := fun w => readLine_any ws[k] w (HSZ.out _ (List.getElem_mem hlw))
   obtain ⟨x, hx⟩ : ∃ x, ws[k] = x := ⟨_, rfl⟩
   rw [hx] at c1 hdr hc
   clear hge hx
   cases hu : unwsL (pcs 32 x) with
   | none =>
     have HX : Hid (unlL ws = none) := by show _ = _; rw [HR.out, hdr, unlL_none hu]; rfl
     rw [hu] at hc
     have HC : Hid (∀ w, Calls Tryz.prog 100 #[.string x] w fun e w' => e = .returned (.tuple #[.slice none 0 0, .bool false]) ∧ Below w.heap.size w w') := hc
     clear hc hu hdr
     go_wp2_with fail
     refine (HC.out _).mono ?_
     rintro e w6 ⟨rfl, b6⟩
     have B6 := zh (hbe.out.trans (b6.mono hbs))
     clear b6
     go_wp2_with fail
     go_ret2
     exact convL_none HX.out rfl B6.out
   | some xs =>
     rw [hu] at hc
     have HC : Hid (∀ w, Calls Tryz.prog 100 #[.string x] w fun e w' => ∃ sp cap, e = .returned (.tuple #[.slice sp xs.length cap, .bool true]) ∧ w'.ownsRow w.heap.size 9 1 (.slice sp xs.length cap) xs.length (xs.map Value.string) ∧ Below w.heap.size w w') := hc
     have HX : Hid (∀ y : Ln, y.l = xs → unlL ws = (unlL (ws.drop (k + 1))).map (wordsOf (done ++ [y]) ++ ·)) := by
      rintro y rfl
      rw [HR.out, hdr, unlL_some hu, Option.map_map]
      congr 1
      funext z
      simp [wordsOf]
     clear hc hu hdr
     go_wp2_with fail
     refine (HC.out _).mono ?_
     rintro e w6 ⟨sp6, cap6, rfl, o6, b6⟩
     have B6 := zh (hbe.out.trans (b6.mono hbs))
     have hz6 := B6.out.size
     have hown6 := zh (own_belowD hown.out b6)
     have HEA6 : Hid (∀ q ∈ done, LnOwn w6 w.heap.size q) := fun q hq => own_belowD (hea.out q hq) b6
     have HO6 : Hid (LnOwn w6 w.heap.size ⟨sp6, xs.length, cap6, xs⟩) := own_monoD o6 hbs
     have HX2 := zh (HX.out ⟨sp6, xs.length, cap6, xs⟩ rfl)
     clear b6 c1 o6 HX hea
     go_wp2_with (first
      | (at_builtin; refine wpList_append_ln rfl (.tmp 28) (.tmp 30) 59 27 rfl Tryz.underlying59 infoLn w.heap.size _ done k rfl HK.out (hown6.out.alloc _) w6.heap.size (⟨sp6, xs.length, cap6, xs⟩ : Ln) rfl (by simp [Ln.val]) (by omega) (by simp; omega) ?_; intro sp5 cap5 w5 hown5 hg5))
     have hbe5 := (B6.out.alloc hz6 (.cells #[.slice sp6 xs.length cap6] 27)).grown hg5 (by simp; omega) (own_baseD hown6.out)
     have HEA5 : Hid (∀ q ∈ done ++ [(⟨sp6, xs.length, cap6, xs⟩ : Ln)], LnOwn w5 w.heap.size q) := by
      intro q hq
      have hq6 : LnOwn w6 w.heap.size q := by
       rcases List.mem_append.1 hq with h | h
       ·exact HEA6.out q h
       ·rw [List.mem_singleton.1 h]; exact HO6.out
      exact World.ownsRow.kept (World.ownsRow.alloc hq6 _) hg5 (own_apart (w := w6) hq6 hown6.out (by decide))
     go_roundw
     case rel => exact ⟨k + 1, done ++ [(⟨sp6, xs.length, cap6, xs⟩ : Ln)], sp5, cap5, by omega, by go_num, by show _ = _; rw [List.length_append, ← HK.out]; rfl, rfl, HX2.out, hown5, HEA5.out, hbe5⟩
     case measure => simp [intOf]; omega
  ·obtain rfl : n = k := by omega
   have hd : decide ((n : Int) < (n : Int)) = false := by simp
   have HX : Hid (unlL ws = some (wordsOf done)) := by
    show _ = _
    rw [HR.out, List.drop_eq_nil_of_le (by rw [HN.out]; exact Nat.le_refl _)]; simp [unlL]
   go_wp2_with fail
   go_ret2
   unfold ConvL
   rw [HX.out]
   have h1 := hown.out
   have h2 := HK.out
   rw [h2] at h1 ⊢
   exact ⟨sp, cap, done, rfl, rfl, h1, hea.out, hbe.out⟩
theorem last_byte (s : ByteArray) (h : 0 < s.size) : (s.extract (s.size - 1) s.size).toList = [s[s.size - 1]] := by
 rw [Lib.toList_data, ByteArray.data_extract, Array.toList_extract, List.extract_eq_take_drop, show s.size - (s.size - 1) = 1 by omega]
 rw [List.drop_eq_getElem_cons (by simpa using (show s.size - 1 < s.size by omega))]
 rfl
def endN (s : ByteArray) : Bool := decide (s.data.toList.getLast? = some 10)
theorem endN_last (s : ByteArray) (h : 0 < s.size) : endN s = decide (s[s.size - 1] = 10) := by
 unfold endN
 rw [decide_eq_decide, List.getLast?_eq_getElem?, ← Lib.size_eq, List.getElem?_eq_getElem (by simpa using (show s.size - 1 < s.size by omega))]
 simp; rfl
theorem hasSuffix_any (s : ByteArray) (w : World) (h : 0 < s.size) (hs : s.size ≤ 10000000) :
 Calls Tryz.prog 137 #[.string s, .string ⟨#[10]⟩] w fun e w' => e = .returned (.bool (endN s)) ∧ w = w' := by
 have hd : decide ((s.size : Int) ≥ 1) = true := by simp; omega
 have q0 : (0 : Int) ≤ (s.size : Int) - 1 := by omega
 have q1 : (s.size : Int) - 1 ≤ (s.size : Int) := by omega
 have q2 : ((s.size : Int) - 1).toNat = s.size - 1 := by omega
 have hl := last_byte s h
 have HE : Hid (endN s = (s[s.size - 1] == 10)) := by
  show _ = _
  rw [endN_last s h, Bool.eq_iff_iff]; simp
 go_enter Tryz.func137, Tryz.ntmps137
 go_wp2_with fail
 go_ret
 exact ⟨by rw [HE.out]; rfl, rfl⟩
theorem cutSufLite_any (s : ByteArray) (w : World) (h : 0 < s.size) (hs : s.size ≤ 10000000) :
 Calls Tryz.prog 120 #[.string s, .string ⟨#[10]⟩] w fun e w' => e = .returned (if endN s = true then .tuple #[.string (s.extract 0 (s.size - 1)), .bool true] else .tuple #[.string s, .bool false]) ∧ w = w' := by
 have q0 : (0 : Int) ≤ (s.size : Int) - 1 := by omega
 have q1 : (s.size : Int) - 1 ≤ (s.size : Int) := by omega
 have q2 : ((s.size : Int) - 1).toNat = s.size - 1 := by omega
 have HP := zh (fun w => hasSuffix_any s w h hs)
 obtain ⟨b, hb⟩ : ∃ b, endN s = b := ⟨_, rfl⟩
 rw [hb] at HP ⊢
 clear hb
 cases b
 ·rw [if_neg (by simp)]
  go_enter Tryz.func120, Tryz.ntmps120
  go_wp2_with fail
  refine (HP.out _).mono ?_
  rintro e w1 ⟨rfl, rfl⟩
  go_wp2_with fail
  go_ret2
  exact ⟨rfl, rfl⟩
 ·rw [if_pos rfl]
  go_enter Tryz.func120, Tryz.ntmps120
  go_wp2_with fail
  refine (HP.out _).mono ?_
  rintro e w1 ⟨rfl, rfl⟩
  go_wp2_with fail
  go_ret2
  exact ⟨rfl, rfl⟩
theorem cutSuf_any (s : ByteArray) (w : World) (h : 0 < s.size) (hs : s.size ≤ 10000000) :
 Calls Tryz.prog 98 #[.string s, .string ⟨#[10]⟩] w fun e w' => e = .returned (if endN s = true then .tuple #[.string (s.extract 0 (s.size - 1)), .bool true] else .tuple #[.string s, .bool false]) ∧ w = w' := by
 have HP := zh (fun w => cutSufLite_any s w h hs)
 clear h hs
 obtain ⟨b, hb⟩ : ∃ b, endN s = b := ⟨_, rfl⟩
 rw [hb] at HP ⊢
 clear hb
 cases b
 ·rw [if_neg (by simp)] at HP ⊢
  go_enter Tryz.func98, Tryz.ntmps98
  go_wp2_with fail
  refine (HP.out _).mono ?_
  rintro e w1 ⟨rfl, rfl⟩
  go_wp2_with fail
  go_ret2
  exact ⟨rfl, rfl⟩
 ·rw [if_pos rfl] at HP ⊢
  go_enter Tryz.func98, Tryz.ntmps98
  go_wp2_with fail
  refine (HP.out _).mono ?_
  rintro e w1 ⟨rfl, rfl⟩
  go_wp2_with fail
  go_ret2
  exact ⟨rfl, rfl⟩
def rdoc (s : ByteArray) : Option (List (List ByteArray)) := if s.data.toList = [] then some [] else if endN s = true then unlL (pcs 10 (s.extract 0 (s.size - 1))) else none
theorem readLines_any (s : ByteArray) (w : World) (hs : s.size ≤ 10000000) :
 Calls Tryz.prog 60 #[.string s] w (ConvL w (rdoc s)) := by
 by_cases he : s.size = 0
 ·have hl : s.data.toList = [] := List.eq_nil_of_length_eq_zero (by rw [← Lib.size_eq]; exact he)
  have hl2 : s.toList = [] := by rw [Lib.toList_data]; exact hl
  have HR : Hid (rdoc s = some []) := by show _ = _; unfold rdoc; rw [if_pos hl]
  clear hl he
  go_enter Tryz.func60, Tryz.ntmps60
  go_wp2_with fail
  go_ret2
  unfold ConvL
  rw [HR.out]
  exact ⟨none, 0, [], rfl, rfl, World.ownsRow_nil _ _ _ _, (fun q hq => by cases hq), Below.refl _ _⟩
 ·have hne : s.data.toList ≠ [] := fun h => he (by rw [Lib.size_eq, h]; rfl)
  have hl : (s.toList == []) = false := by rw [Lib.toList_data, beq_eq_false_iff_ne]; exact hne
  have hl2 : ¬ s.toList = [] := by simpa using hl
  have HC := zh (fun w => cutSuf_any s w (by omega) hs)
  have HR : Hid (rdoc s = if endN s = true then unlL (pcs 10 (s.extract 0 (s.size - 1))) else none) := by show _ = _; unfold rdoc; rw [if_neg hne]
  obtain ⟨b, hb⟩ : ∃ b, endN s = b := ⟨_, rfl⟩
  rw [hb] at HC HR
  clear hb hne
  cases b
  ·rw [if_neg (by simp)] at HC HR
   clear he
   go_enter Tryz.func60, Tryz.ntmps60
   go_wp2_with fail
   refine (HC.out _).mono ?_
   rintro e w1 ⟨rfl, rfl⟩
   go_wp2_with fail
   go_ret2
   exact convL_none HR.out rfl (Below.refl _ _)
  ·rw [if_pos rfl] at HC HR
   have htz : (s.extract 0 (s.size - 1)).size ≤ 10000000 := by rw [ByteArray.size_extract]; omega
   obtain ⟨T, hT⟩ : ∃ T, s.extract 0 (s.size - 1) = T := ⟨_, rfl⟩
   rw [hT] at HC HR htz
   have HS := zh (fun w => split_anyS T 10 w htz)
   have hl3 := pcs_len 10 T
   have hc := pcs_cnt 10 T
   have hz := pcs_size 10 T
   have HV : Hid (∀ w1, w1 = w.alloc (.cells ((pcs 10 T).map Value.string).toArray 9) → Calls Tryz.prog 99 #[.slice (some ⟨w.heap.size, 0, none⟩) (Lib.countB T (oneB 10) + 1) (Lib.countB T (oneB 10) + 1), .func (.func 100) #[] #[]] w1 fun e w' => ∃ v b, e = .returned (.tuple #[v, .bool b]) ∧ ConvL w (unlL (pcs 10 T)) e w') := by
    rintro w1 rfl
    have hb := below_allocD w (.cells ((pcs 10 T).map Value.string).toArray 9)
    have hnew := heap_alloc_new w (.cells ((pcs 10 T).map Value.string).toArray 9)
    refine (convLs_any w.heap.size (Lib.countB T (oneB 10) + 1) (pcs 10 T) _ hl3 (by omega) (by simp) (fun j hj => ?_) (fun x hx => Nat.le_trans (hz x hx) (by omega))).mono fun e w' h => ?_
    ·rw [cell_of_row _ w.heap.size j _ _ (0, 0) hnew]
     have : j < (pcs 10 T).length := by omega
     simp [this]
    ·unfold ConvL at h ⊢
     cases hu : unlL (pcs 10 T) with
     | none =>
       rw [hu] at h
       obtain ⟨h1, h2⟩ := h
       exact ⟨_, _, h1, h1, hb.trans (h2.mono hb.size)⟩
     | some xs =>
       rw [hu] at h
       obtain ⟨sp, cap, ls, h0, h1, h2, h3, h4⟩ := h
       exact ⟨_, _, h1, sp, cap, ls, h0, h1, own_monoD h2 hb.size, (fun q hq => own_monoD (h3 q hq) hb.size), hb.trans (h4.mono hb.size)⟩
   clear hl3 hc hz hs hT htz he
   go_enter Tryz.func60, Tryz.ntmps60
   go_wp2_with fail
   refine (HC.out _).mono ?_
   rintro e w1 ⟨rfl, rfl⟩
   go_wp2_with fail
   refine (HS.out _).mono ?_
   rintro e w1 ⟨rfl, hw⟩
   have HW := zh hw
   clear hw
   go_wp2_with fail
   refine (HV.out w1 HW.out).mono ?_
   rintro e w2 ⟨v, b, rfl, hr⟩
   have HR2 := zh hr
   clear hr
   go_wp2_with fail
   go_ret2
   rw [HR.out]
   exact HR2.out
end Go.Proofs.YtecllfbadciaoaaGreatDoor
