/-
  The walk of document.Decode: for all bytes.
-/
import Derived.Test.YtecllfbadciaoaaGreatDoorZip
import Derived.Test.YtecllfbadciaoaaGreatDoorQ1
import Derived.Laws.BytesString
import GoSem.Claim
set_option maxRecDepth 100000
set_option maxHeartbeats 8000000
namespace Go.Proofs.YtecllfbadciaoaaGreatDoor
open Go.RowKit
structure BSrc (w : World) (B : Nat) (sp : Option Addr) (n cap : Nat) (l : List UInt8) : Prop where
 len : l.length = n
 cells : 0 < n → ∃ bb off, sp = some ⟨bb, off, none⟩ ∧ bb < B ∧ n ≤ cap ∧ ∀ j (hj : j < l.length), w.cell? ⟨bb, off + j, none⟩ = some (.int .u8 (l[j].toNat : Int))
theorem BSrc.below {w w' : World} {B B' : Nat} {sp : Option Addr} {n cap : Nat} {l : List UInt8} (h : BSrc w B sp n cap l) (hb : Below B' w w') (hB : B ≤ B') : BSrc w' B sp n cap l :=
 ⟨h.len, fun hn => by
  obtain ⟨bb, off, e, hlt, hc, hcell⟩ := h.cells hn
  exact ⟨bb, off, e, hlt, hc, fun j hj => (hb.cell (p := ⟨bb, off + j, none⟩) (by show bb < B'; omega)).trans (hcell j hj)⟩⟩
theorem run_conv_src {w : World} {B : Nat} {sp : Option Addr} {n cap c2 : Nat} {l : List UInt8} (h : BSrc w B sp n cap l) : (convert 22 9 (.slice sp n c2)).run Tryz.prog w = .ok (.string ⟨l.toArray⟩) w := by
 by_cases hn : n = 0
 ·have hl : l = [] := List.eq_nil_of_length_eq_zero (by rw [h.len]; exact hn)
  subst hn hl
  cases sp with
  | none =>
    rw [run_convert_bytes_string w 22 9 5 none 0 c2 Tryz.underlying22 Tryz.underlying5 Tryz.underlying9]
    rfl
  | some ad => exact run_convert_bytes_back w 22 9 5 ad c2 [] Tryz.underlying22 Tryz.underlying5 Tryz.underlying9 (fun j hj => absurd hj (by simp))
 ·obtain ⟨bb, off, rfl, _, _, hc⟩ := h.cells (by omega)
  have := run_convert_bytes_back w 22 9 5 ⟨bb, off, none⟩ c2 l Tryz.underlying22 Tryz.underlying5 Tryz.underlying9 (fun j hj => by rw [Addr.add_mid]; exact hc j hj)
  rwa [h.len] at this
theorem own_le {w : World} {base e : Nat} {sp : Option Addr} {n cap : Nat} {xs : List Value} (h : w.ownsRow base e 1 (.slice sp n cap) n xs) : n ≤ maxLen := by
 obtain ⟨_, ⟨_, h2⟩ | ⟨g, c, u, _, _, _, h3, h4, _⟩⟩ := h
 ·subst h2; exact Nat.zero_le _
 ·exact Nat.le_trans h3 h4
theorem strs_own {w : World} {base : Nat} {q : Ln} (h : LnOwn w base q) : StrsIn w w.heap.size q.sp q.n q.l := by
 unfold LnOwn at h
 obtain ⟨h0, h1⟩ := h
 rw [List.length_map, Nat.mul_one] at h0
 refine ⟨h0, fun hn => ?_⟩
 rcases h1 with ⟨_, h2⟩ | ⟨g, c, u, e, _, hg, _, _, hs, ht⟩
 ·omega
 ·injection e with e1 e2 e3
  refine ⟨g, 0, e1, (Array.getElem?_eq_some_iff.1 hg).1, fun j hj => ?_⟩
  rw [cell_of_row w g (0 + j) u _ _ hg, Nat.zero_add]
  have h5 : (u.toList.take (q.n * 1))[j]? = some (.string q.l[j]) := by rw [ht]; simp [hj]
  rw [List.getElem?_take, if_pos (by omega)] at h5
  simpa using h5
theorem lines_ownD {w : World} {base : Nat} {sp : Option Addr} {cap : Nat} {ls : List Ln} (h : w.ownsRow base 27 1 (.slice sp ls.length cap) ls.length (ls.map Ln.val)) (he : ∀ q ∈ ls, LnOwn w base q) : LinesIn w w.heap.size sp ls.length ls := by
 refine ⟨rfl, fun hn => ?_, fun q hq => strs_own (he q hq)⟩
 obtain ⟨_, ⟨_, h2⟩ | ⟨g, c, u, e, _, hg, _, _, hs, ht⟩⟩ := h
 ·omega
 ·injection e with e1 e2 e3
  refine ⟨g, 0, e1, (Array.getElem?_eq_some_iff.1 hg).1, fun j hj => ?_⟩
  rw [cell_of_row w g (0 + j) u _ _ hg, Nat.zero_add]
  have h5 : (u.toList.take (ls.length * 1))[j]? = some ls[j].val := by rw [ht]; simp [hj]
  rw [List.getElem?_take, if_pos (by omega)] at h5
  simpa using h5
def decC (S : ByteArray) : Nat × List (List ByteArray) := if 262144 < S.size then (3, []) else match rdoc S with
 | none => (2, [])
 | some L => if chk L = 0 then (0, L) else (2, [])
def DecRes (w : World) (r : Nat × List (List ByteArray)) (e : Ending) (w' : World) : Prop :=
 ∃ (sp : Option Addr) (cap : Nat) (ls : List Ln), wordsOf ls = r.2 ∧ e = .returned (.tuple #[.slice sp ls.length cap, .int .i64 (r.1 : Int)]) ∧ w'.ownsRow w.heap.size 27 1 (.slice sp ls.length cap) ls.length (ls.map Ln.val) ∧ (∀ q ∈ ls, LnOwn w' w.heap.size q) ∧ Below w.heap.size w w'
theorem decRes_no {w : World} {r : Nat × List (List ByteArray)} {c : Nat} {e : Ending} {w' : World} (h : r = (c, [])) (he : e = .returned (.tuple #[.slice none 0 0, .int .i64 (c : Int)])) (hb : Below w.heap.size w w') : DecRes w r e w' := by
 subst h
 exact ⟨none, 0, [], rfl, he, World.ownsRow_nil _ _ _ _, (fun q hq => by cases hq), hb⟩
theorem Decode_any (sp : Option Addr) (n cap : Nat) (l : List UInt8) (w : World) (hs : BSrc w w.heap.size sp n cap l) :
 Calls Tryz.prog 29 #[.slice sp n cap] w (DecRes w (decC ⟨l.toArray⟩)) := by
 have hlen : (⟨l.toArray⟩ : ByteArray).size = n := by rw [Lib.size_eq]; exact hs.len
 have hcv := run_conv_src (c2 := cap) hs
 obtain ⟨S, hS⟩ : ∃ S : ByteArray, ⟨l.toArray⟩ = S := ⟨_, rfl⟩
 rw [hS] at hlen hcv ⊢
 clear hS hs
 by_cases hbig : 262144 < n
 ·have hd : decide ((n : Int) > 262144) = true := by simp; omega
  have HR : Hid (decC S = (3, [])) := by show _ = _; unfold decC; rw [if_pos (by omega)]
  clear hbig hlen hcv
  go_enter Tryz.func29, Tryz.ntmps29
  go_wp2_with fail
  go_ret2
  exact decRes_no HR.out rfl (Below.refl _ _)
 ·have hd : decide ((n : Int) > 262144) = false := by simp; omega
  have HRL := zh (readLines_any S w (by omega))
  have HR0 : Hid (decC S = match rdoc S with | none => (2, []) | some L => if chk L = 0 then (0, L) else (2, [])) := by show _ = _; unfold decC; rw [if_neg (by omega)]
  clear hbig hlen
  cases hr : rdoc S with
  | none =>
    rw [hr] at HRL HR0
    have HR : Hid (decC S = (2, [])) := HR0.out
    have HC : Hid (Calls Tryz.prog 60 #[.string S] w fun e w' => e = .returned (.tuple #[.slice none 0 0, .bool false]) ∧ Below w.heap.size w w') := HRL.out
    clear HRL HR0 hr
    go_enter Tryz.func29, Tryz.ntmps29
    go_wp2_with fail
    refine HC.out.mono ?_
    rintro e w1 ⟨rfl, b1⟩
    go_wp2_with fail
    go_ret2
    exact decRes_no HR.out rfl b1
  | some L =>
    rw [hr] at HRL HR0
    have HR : Hid (decC S = if chk L = 0 then (0, L) else (2, [])) := HR0.out
    have HC : Hid (Calls Tryz.prog 60 #[.string S] w fun e w' => ∃ (sp : Option Addr) (cap : Nat) (ls : List Ln), wordsOf ls = L ∧ e = .returned (.tuple #[.slice sp ls.length cap, .bool true]) ∧ w'.ownsRow w.heap.size 27 1 (.slice sp ls.length cap) ls.length (ls.map Ln.val) ∧ (∀ q ∈ ls, LnOwn w' w.heap.size q) ∧ Below w.heap.size w w') := HRL.out
    clear HRL HR0 hr
    by_cases hk : chk L = 0
    ·rw [if_pos hk] at HR
     go_enter Tryz.func29, Tryz.ntmps29
     go_wp2_with fail
     refine HC.out.mono ?_
     rintro e w1 ⟨sp1, cap1, ls, hwo, rfl, o1, he1, b1⟩
     have hck := checkLines_any sp1 ls.length cap1 ls w1 (lines_ownD o1 he1) (own_le o1) (fun q hq => own_le (he1 q hq))
     rw [hwo, hk] at hck
     have HCK := zh hck; have HO1 := zh o1; have HE1 := zh he1; have HWO := zh hwo; have HB1 := zh b1
     clear hck o1 he1 hwo b1 hk
     go_wp2_with fail
     refine HCK.out.mono ?_
     rintro e w2 ⟨rfl, rfl⟩
     go_wp2_with fail
     go_ret2
     rw [HR.out]
     exact ⟨sp1, cap1, ls, HWO.out, rfl, HO1.out, HE1.out, HB1.out⟩
    ·rw [if_neg hk] at HR
     obtain ⟨c, hc⟩ : ∃ c, chk L = c := ⟨_, rfl⟩
     rw [hc] at hk
     have hne : ((c : Int) != 0) = true := by rw [bne_iff_ne]; omega
     have HCE := zh hc
     clear hc
     go_enter Tryz.func29, Tryz.ntmps29
     go_wp2_with fail
     refine HC.out.mono ?_
     rintro e w1 ⟨sp1, cap1, ls, hwo, rfl, o1, he1, b1⟩
     have hck := checkLines_any sp1 ls.length cap1 ls w1 (lines_ownD o1 he1) (own_le o1) (fun q hq => own_le (he1 q hq))
     rw [hwo, HCE.out] at hck
     have HCK := zh hck; have HB1 := zh b1
     clear hck o1 he1 hwo b1
     go_wp2_with fail
     refine HCK.out.mono ?_
     rintro e w2 ⟨rfl, rfl⟩
     go_wp2_with fail
     go_ret2
     exact decRes_no HR.out rfl HB1.out
theorem unwL_len : ∀ (n : Nat) (t m : List UInt8), t.length ≤ n → unwL t = some m → (m.flatMap encB).length ≤ t.length
 | _, [], m, _, h => by
   have : m = [] := by simpa [unwL] using h.symm
   subst this; exact Nat.le_refl _
 | 0, c :: t, _, hn, _ => by simp at hn
 | n + 1, c :: t, m, hn, h => by
   have hn' : t.length ≤ n := by simpa using hn
   by_cases hp : plnB c.toNat = true
   ·rw [unwL_plain hp] at h
    cases hu : unwL t with
    | none => rw [hu] at h; cases h
    | some m' =>
      rw [hu] at h
      have e : m = c :: m' := by simpa using h.symm
      subst e
      rw [List.flatMap_cons, encB_plain hp, List.length_append]
      have := unwL_len n t m' hn' hu
      rw [List.length_singleton, List.length_cons]; omega
   ·have hp' : plnB c.toNat = false := by simpa using hp
    by_cases hc : c = 37
    ·subst hc
     rw [unwL_esc] at h
     cases he : escD t with
     | none => rw [he] at h; cases h
     | some v =>
       rw [he] at h
       have ht : 2 ≤ t.length := by
        match t, he with
        | [], he => simp [escD] at he
        | [_], he => simp [escD] at he
        | _ :: _ :: _, _ => simp
       cases hu : unwL (t.drop 2) with
       | none => rw [hu] at h; cases h
       | some m' =>
         rw [hu] at h
         have e : m = v :: m' := by simpa using h.symm
         subst e
         rw [List.flatMap_cons, List.length_append]
         have h1 := unwL_len n (t.drop 2) m' (by rw [List.length_drop]; omega) hu
         rw [List.length_drop] at h1
         have h2 := encB_le v
         rw [List.length_cons]; omega
    ·rw [unwL_other hp' hc] at h; cases h
theorem unword_len {t m : List UInt8} (h : unword t = some m) : (wordL m).length ≤ t.length := by
 unfold unword at h
 by_cases h0 : t = []
 ·rw [if_pos h0] at h; cases h
 ·rw [if_neg h0] at h
  have hp : 1 ≤ t.length := by cases t with
   | nil => exact absurd rfl h0
   | cons _ _ => simp
  by_cases h1 : t = [126]
  ·rw [if_pos h1] at h
   have e : m = [] := by simpa using h.symm
   subst e; exact hp
  ·rw [if_neg h1] at h
   unfold wordL
   split
   ·exact hp
   ·exact unwL_len _ t m (Nat.le_refl _) h
theorem unwsL_len : ∀ (ws xs : List ByteArray), unwsL ws = some xs → (body xs).length ≤ (ws.map fun x => x.size + 1).sum ∧ xs.length = ws.length
 | [], xs, h => by
   have : xs = [] := by simpa [unwsL] using h.symm
   subst this; exact ⟨Nat.le_refl _, rfl⟩
 | s :: r, xs, h => by
   cases hu : unwS s with
   | none => rw [unwsL_none hu] at h; cases h
   | some x =>
     rw [unwsL_some hu] at h
     cases hr : unwsL r with
     | none => rw [hr] at h; cases h
     | some xs' =>
       rw [hr] at h
       have e : xs = x :: xs' := by simpa using h.symm
       subst e
       obtain ⟨h1, h2⟩ := unwsL_len r xs' hr
       have h3 : (wordL x.data.toList).length ≤ s.data.toList.length := by
        unfold unwS at hu
        cases hw : unword s.data.toList with
        | none => rw [hw] at hu; cases hu
        | some m =>
          rw [hw] at hu
          have e : x = ⟨m.toArray⟩ := by simpa using hu.symm
          subst e
          exact unword_len hw
       rw [← Lib.size_eq] at h3
       refine ⟨?_, by simp [h2]⟩
       unfold body at h1 ⊢
       rw [List.flatMap_cons, List.length_append, List.length_append, List.map_cons, List.sum_cons, List.length_singleton]
       omega
theorem split_sum (c : UInt8) : ∀ (k : Nat) (s : ByteArray), Lib.countB s (oneB c) = k → ((Lib.splitB (oneB c) 0 k s).map fun x => x.size + 1).sum = s.size + 1
 | 0, s, _ => by rw [Lib.splitB_zero]; simp
 | k + 1, s, hk => by
   rcases Lib.indexB_cases s (oneB c) with hix | ⟨i, hix, hroom⟩
   ·rw [Lib.countB_miss s (oneB c) hix] at hk; omega
   ·have ih := split_sum c k (s.extract (i + (oneB c).size) s.size) (by have := Lib.countB_hit s (oneB c) i (Nat.le_refl _) hix; omega)
    rw [Lib.splitB_hit (oneB c) 0 k s i hix, List.map_cons, List.sum_cons, ih]
    rw [oneB_size] at hroom ⊢
    rw [ByteArray.size_extract, ByteArray.size_extract]
    omega
theorem line_len {s : ByteArray} {xs : List ByteArray} (h : unwsL (pcs 32 s) = some xs) : (lineL xs).length ≤ s.size + 1 := by
 obtain ⟨h1, h2⟩ := unwsL_len _ _ h
 have h3 := split_sum 32 _ s rfl
 have h4 := pcs_len 32 s
 unfold pcs at h1 h4
 rw [h3] at h1
 unfold lineL
 rw [List.length_append, List.length_dropLast]
 have : 0 < (body xs).length := by
  cases xs with
  | nil => unfold pcs at h2; rw [List.length_nil] at h2; omega
  | cons x r => unfold body; rw [List.flatMap_cons]; simp; omega
 simp; omega
theorem unlL_len : ∀ (ws : List ByteArray) (L : List (List ByteArray)), unlL ws = some L → (encL L).length ≤ (ws.map fun x => x.size + 1).sum
 | [], L, h => by
   have : L = [] := by simpa [unlL] using h.symm
   subst this; exact Nat.le_refl _
 | s :: r, L, h => by
   cases hu : unwsL (pcs 32 s) with
   | none => rw [unlL_none hu] at h; cases h
   | some x =>
     rw [unlL_some hu] at h
     cases hr : unlL r with
     | none => rw [hr] at h; cases h
     | some L' =>
       rw [hr] at h
       have e : L = x :: L' := by simpa using h.symm
       subst e
       have h1 := unlL_len r L' hr
       have h2 := line_len hu
       unfold encL at h1 ⊢
       rw [List.flatMap_cons, List.length_append, List.map_cons, List.sum_cons]
       omega
theorem rdoc_len {S : ByteArray} {L : List (List ByteArray)} (h : rdoc S = some L) : (encL L).length ≤ S.size := by
 unfold rdoc at h
 by_cases h0 : S.data.toList = []
 ·rw [if_pos h0] at h
  have e : L = [] := by simpa using h.symm
  subst e; exact Nat.zero_le _
 ·rw [if_neg h0] at h
  by_cases h1 : endN S = true
  ·rw [if_pos h1] at h
   have h2 := unlL_len _ _ h
   have h3 := split_sum 10 _ (S.extract 0 (S.size - 1)) rfl
   unfold pcs at h2
   rw [h3, ByteArray.size_extract] at h2
   have : 0 < S.size := by rw [Lib.size_eq]; cases hd : S.data.toList with
    | nil => exact absurd hd h0
    | cons _ _ => simp
   omega
  ·rw [if_neg h1] at h; cases h
theorem rdoc_enc {S : ByteArray} {L : List (List ByteArray)} (h : rdoc S = some L) (hs : S.size ≤ 262144) : (enc L).1 = chk L := by
 have := rdoc_len h
 unfold enc
 split
 ·rename_i hk
  rw [if_neg (by omega), hk]
 ·rfl
structure TpIn (w : World) (tb : Nat) (sp : Option Addr) (n cap : Nat) (l : List Int) (k : Nat) : Prop where
 row : w.heap[tb]? = some (.cells #[.slice sp n cap, .int .i64 k] 35 (0, 0))
 len : l.length = n
 cells : 0 < n → ∃ b off, sp = some ⟨b, off, none⟩ ∧ b < tb ∧ n ≤ cap ∧ ∀ i v, l[i]? = some v → w.cell? ⟨b, off + i, none⟩ = some (.int .i64 v)
 wide : ∀ v ∈ l, -9223372036854775808 ≤ v ∧ v ≤ 9223372036854775807
 short : n ≤ 9223372036854775807
structure Turn (tb : Nat) (w w' : World) : Prop where
 os : w'.os = w.os
 tape : w'.tape = w.tape
 output : w'.output = w.output
 size : w.heap.size ≤ w'.heap.size
 block : ∀ k, k < w.heap.size → k ≠ tb → w'.heap[k]? = w.heap[k]?
theorem Turn.refl (tb : Nat) (w : World) : Turn tb w w := ⟨rfl, rfl, rfl, Nat.le_refl _, fun _ _ _ => rfl⟩
theorem Turn.trans {tb : Nat} {a b c : World} (h : Turn tb a b) (k : Turn tb b c) : Turn tb a c :=
 ⟨k.os.trans h.os, k.tape.trans h.tape, k.output.trans h.output, Nat.le_trans h.size k.size, fun i hi hn => (k.block i (by have := h.size; omega) hn).trans (h.block i hi hn)⟩
theorem Turn.of {tb : Nat} {w w' : World} (h : Below w.heap.size w w') : Turn tb w w' := ⟨h.os, h.tape, h.output, h.size, fun k hk _ => h.block k hk⟩
theorem Turn.below {tb B : Nat} {w w' : World} (h : Turn tb w w') (hB : B ≤ tb) (hs : tb < w.heap.size) : Below B w w' := ⟨h.os, h.tape, h.output, h.size, fun k hk => h.block k (by omega) (by omega)⟩
theorem TpIn.lt {w : World} {tb : Nat} {sp : Option Addr} {n cap : Nat} {l : List Int} {k : Nat} (h : TpIn w tb sp n cap l k) : tb < w.heap.size := (Array.getElem?_eq_some_iff.1 h.row).1
theorem TpIn.ofB {w w' : World} {tb B : Nat} {sp : Option Addr} {n cap : Nat} {l : List Int} {k : Nat} (h : TpIn w tb sp n cap l k) (hb : Below B w w') (hB : tb < B) : TpIn w' tb sp n cap l k :=
 ⟨(hb.block tb hB).trans h.row, h.len, fun hn => by
   obtain ⟨b, off, e, hlt, hc, hr⟩ := h.cells hn
   exact ⟨b, off, e, hlt, hc, fun i v hi => (hb.cell (p := ⟨b, off + i, none⟩) (Nat.lt_trans hlt hB)).trans (hr i v hi)⟩, h.wide, h.short⟩
theorem TpIn.of {w w' : World} {tb : Nat} {sp : Option Addr} {n cap : Nat} {l : List Int} {k : Nat} (h : TpIn w tb sp n cap l k) (hb : Below w.heap.size w w') : TpIn w' tb sp n cap l k := h.ofB hb h.lt
def Tp (w : World) (tb : Nat) (q : Nat) : Prop := ∃ sp n cap l k, TpIn w tb sp n cap l k ∧ k + q ≤ 1000000
theorem Tp.of {w w' : World} {tb q : Nat} (h : Tp w tb q) (hb : Below w.heap.size w w') : Tp w' tb q := by
 obtain ⟨sp, n, cap, l, k, h, hq⟩ := h
 exact ⟨sp, n, cap, l, k, h.of hb, hq⟩
theorem Tp.ofB {w w' : World} {tb q B : Nat} (h : Tp w tb q) (hb : Below B w w') (hB : tb < B) : Tp w' tb q := by
 obtain ⟨sp, n, cap, l, k, h, hq⟩ := h
 exact ⟨sp, n, cap, l, k, h.ofB hb hB, hq⟩
theorem Tp.le {w : World} {tb q q' : Nat} (h : Tp w tb q) (hq' : q' ≤ q) : Tp w tb q' := by
 obtain ⟨sp, n, cap, l, k, h, hq⟩ := h
 exact ⟨sp, n, cap, l, k, h, by omega⟩
theorem Tp.lt {w : World} {tb q : Nat} (h : Tp w tb q) : tb < w.heap.size := by
 obtain ⟨sp, n, cap, l, k, h, hq⟩ := h
 exact h.lt
theorem TpIn.slice {w : World} {tb : Nat} {sp : Option Addr} {n cap : Nat} {l : List Int} {k : Nat} (h : TpIn w tb sp n cap l k) : w.cell? ⟨tb, 0, none⟩ = some (.slice sp n cap) := by rw [cell_of_row w tb 0 _ _ _ h.row]; rfl
theorem TpIn.at {w : World} {tb : Nat} {sp : Option Addr} {n cap : Nat} {l : List Int} {k : Nat} (h : TpIn w tb sp n cap l k) : w.cell? ⟨tb, 1, none⟩ = some (.int .i64 k) := by rw [cell_of_row w tb 1 _ _ _ h.row]; rfl
theorem TpIn.get {w : World} {tb : Nat} {b off : Nat} {n cap : Nat} {l : List Int} {k : Nat} (h : TpIn w tb (some ⟨b, off, none⟩) n cap l k) {i : Nat} {v : Int} (hi : l[i]? = some v) : b ≠ tb ∧ w.cell? ⟨b, off + i, none⟩ = some (.int .i64 v) := by
 have hl := (List.getElem?_eq_some_iff.1 hi).1
 obtain ⟨b', o', e, hne, _, hr⟩ := h.cells (by have := h.len; omega)
 injection e with e; injection e with e1 e2; subst e1 e2
 exact ⟨by omega, hr i v hi⟩
theorem TpIn.tick {w : World} {tb : Nat} {sp : Option Addr} {n cap : Nat} {l : List Int} {k : Nat} (h : TpIn w tb sp n cap l k) : TpIn (w.setCell ⟨tb, 1, none⟩ (.int .i64 ((k : Int) + 1))) tb sp n cap l (k + 1) :=
 ⟨by rw [heap_setCell_same w tb 1 _ _ _ h.row]; rfl, h.len, fun hn => by
  obtain ⟨b, off, e, hlt, hc, hr⟩ := h.cells hn
  exact ⟨b, off, e, hlt, hc, fun i v hi => (World.cell?_of_block (a := ⟨b, off + i, none⟩) (heap_setCell_other w ⟨tb, 1, none⟩ b _ (by show b ≠ tb; omega))).trans (hr i v hi)⟩, h.wide, h.short⟩
theorem Turn.tick (tb i : Nat) (w : World) (u : Value) : Turn tb w (w.setCell ⟨tb, i, none⟩ u) := ⟨rfl, rfl, rfl, by simp [World.setCell], fun k _ hne => heap_setCell_other w ⟨tb, i, none⟩ k _ hne⟩
theorem next_val (x : Int) (m : Nat) (hm : 1 ≤ m) (hm2 : m ≤ 1000000) (h1 : x < m) (h2 : -(m : Int) < x) : ∃ r : Nat, (wrap64 (x + m)).tmod m = r ∧ r < m := by
 have h3 : wrap64 (x + m) = x + m := by unfold wrap64; omega
 rw [h3, Int.tmod_eq_emod_of_nonneg (by omega)]
 have h4 := Int.emod_nonneg (x + m) (b := (m : Int)) (by omega)
 have h5 := Int.emod_lt_of_pos (x + m) (b := (m : Int)) (by omega)
 exact ⟨((x + m) % m).toNat, by omega, by omega⟩
theorem next_any (tb m q : Nat) (w : World) (ht : Tp w tb (q + 1)) (hm : 1 ≤ m) (hm2 : m ≤ 1000000) :
 Calls Tryz.prog 28 #[.pointer (some ⟨tb, 0, none⟩), .int .i64 m] w fun e w' => ∃ r : Nat, e = .returned (.int .i64 r) ∧ r < m ∧ Tp w' tb q ∧ Turn tb w w' := by
 obtain ⟨sp, n, cap, l, k, hin, hq⟩ := ht
 have h0 := hin.slice
 have h1 := hin.at
 have HIN := zh hin
 have hm1 : decide ((m : Int) < 1) = false := by simp; omega
 have hmz : ((m : Int) == 0) = false := by simp; omega
 clear hin
 go_enter Tryz.func28, Tryz.ntmps28
 have HDR := zh (show TpIn w.drew tb sp n cap l k ∧ Turn tb w w.drew from ⟨HIN.out.of ((Below.refl w.heap.size w).drew), Turn.of ((Below.refl w.heap.size w).drew)⟩)
 have HDR := zh (show TpIn w.drew tb sp n cap l k ∧ Turn tb w w.drew from ⟨HIN.out.of ((Below.refl w.heap.size w).drew), Turn.of ((Below.refl w.heap.size w).drew)⟩)
 have HDR := zh (show TpIn w.drew tb sp n cap l k ∧ Turn tb w w.drew from ⟨HIN.out.of ((Below.refl w.heap.size w).drew), Turn.of ((Below.refl w.heap.size w).drew)⟩)
 have HDR := zh (show TpIn w.drew tb sp n cap l k ∧ Turn tb w w.drew from ⟨HIN.out.of ((Below.refl w.heap.size w).drew), Turn.of ((Below.refl w.heap.size w).drew)⟩)
 have HDR := zh (show TpIn w.drew tb sp n cap l k ∧ Turn tb w w.drew from ⟨HIN.out.of ((Below.refl w.heap.size w).drew), Turn.of ((Below.refl w.heap.size w).drew)⟩)
 by_cases hk : k < n
 ·have hd : decide ((k : Int) < (n : Int)) = true := by simp; omega
  obtain ⟨v, hv⟩ : ∃ v, l[k]? = some v := ⟨l[k]'(by have := HIN.out.len; omega), List.getElem?_eq_getElem _⟩
  have HV := zh hv
  have HWD := zh (HIN.out.wide v (List.mem_of_getElem? hv))
  obtain ⟨b, off, rfl, hne, hcap, -⟩ := HIN.out.cells (by omega)
  have p1 : (0 : Int) ≤ (k : Int) := by omega
  have p2 : (k : Int) < (n : Int) := by omega
  clear hv
  go_wp2_with fail
  refine wp_region_held_drew (S := fun w' => TpIn w' tb (some ⟨b, off, none⟩) n cap l k ∧ Turn tb w w') (by kernel_rfl) HDR.out (fun hHeld => ?_)
  refine zv 0 rfl ?_
  refine zv 1 rfl ?_
  refine zv 2 rfl ?_
  refine zx 3 rfl (v := ?_) ?_ ?_; rotate_left
  ·intro w' hSw; have h2 := hSw.1.at; go_simp; try with_reducible rfl
  refine zv 4 rfl ?_
  refine zv 5 rfl ?_
  refine zv 6 rfl ?_
  refine zx 7 rfl (v := ?_) ?_ ?_; rotate_left
  ·intro w' hSw; have h2 := hSw.1.slice; go_simp; try with_reducible rfl
  refine zv 8 rfl ?_
  refine zv 9 rfl ?_
  refine zd ?_ _
  clear hHeld
  have HT1 := zh HDR.out.1
  have HU1 := zh HDR.out.2
  generalize World.drew w = w1 at HT1 HU1 ⊢
  go_wp2_with fail
  refine wp_region_held_drew (S := fun w' => TpIn w' tb (some ⟨b, off, none⟩) n cap l k ∧ Turn tb w w') (by kernel_rfl) ⟨HT1.out.of ((Below.refl w1.heap.size w1).drew), HU1.out.trans (Turn.of ((Below.refl w1.heap.size w1).drew))⟩ (fun hHeld => ?_)
  refine zv 0 rfl ?_
  refine zv 1 rfl ?_
  refine zv 2 rfl ?_
  refine zx 3 rfl (v := ?_) ?_ ?_; rotate_left
  ·intro w' hSw; have h2 := hSw.1.slice; go_simp; try with_reducible rfl
  refine zv 4 rfl ?_
  refine zv 5 rfl ?_
  refine zv 6 rfl ?_
  refine zx 7 rfl (v := ?_) ?_ ?_; rotate_left
  ·intro w' hSw; have h2 := hSw.1.at; go_simp; try with_reducible rfl
  refine zv 8 rfl ?_
  refine zx 9 rfl (v := ?_) ?_ ?_; rotate_left
  ·intro w' hSw; have h2 := (hSw.1.get HV.out).2; go_simp; try with_reducible rfl
  refine zv 10 rfl ?_
  refine zd ?_ _
  clear hHeld
  have HT2 := zh (HT1.out.of ((Below.refl w1.heap.size w1).drew))
  have HU2 := zh (HU1.out.trans (Turn.of ((Below.refl w1.heap.size w1).drew)))
  generalize World.drew w1 = w2 at HT2 HU2 ⊢
  have h5 := HT2.out.at
  have hf5 : w2.frozen? ⟨tb, 1, none⟩ = false := by simp [World.frozen?, HT2.out.row]
  have HR := zh (next_val (v.tmod m) m hm hm2 (Int.tmod_lt_of_pos v (by omega)) (Int.lt_tmod_of_pos v (by omega)))
  go_wp2_with fail
  obtain ⟨r, hr, hrm⟩ := HR.out
  go_ret
  exact ⟨r, by show Ending.returned (.int .i64 ((wrap64 (v.tmod m + m)).tmod m)) = _; rw [hr], hrm, ⟨_, n, cap, l, k + 1, HT2.out.tick, by omega⟩, HU2.out.trans (Turn.tick _ _ _ _)⟩
 ·have hd : decide ((k : Int) < (n : Int)) = false := by simp; omega
  go_wp2_with fail
  refine wp_region_held_drew (S := fun w' => TpIn w' tb sp n cap l k ∧ Turn tb w w') (by kernel_rfl) HDR.out (fun hHeld => ?_)
  refine zv 0 rfl ?_
  refine zv 1 rfl ?_
  refine zv 2 rfl ?_
  refine zx 3 rfl (v := ?_) ?_ ?_; rotate_left
  ·intro w' hSw; have h2 := hSw.1.at; go_simp; try with_reducible rfl
  refine zv 4 rfl ?_
  refine zv 5 rfl ?_
  refine zv 6 rfl ?_
  refine zx 7 rfl (v := ?_) ?_ ?_; rotate_left
  ·intro w' hSw; have h2 := hSw.1.slice; go_simp; try with_reducible rfl
  refine zv 8 rfl ?_
  refine zv 9 rfl ?_
  refine zd ?_ _
  clear hHeld
  have HT2 := zh HDR.out.1
  have HU2 := zh HDR.out.2
  generalize World.drew w = w2 at HT2 HU2 ⊢
  have h5 := HT2.out.at
  have hf5 : w2.frozen? ⟨tb, 1, none⟩ = false := by simp [World.frozen?, HT2.out.row]
  have HR := zh (next_val (((k : Int) * 7 + 3) % m) m hm hm2 (Int.emod_lt_of_pos _ (by omega)) (by have := Int.emod_nonneg ((k : Int) * 7 + 3) (b := (m : Int)) (by omega); omega))
  go_wp2_with fail
  obtain ⟨r, hr, hrm⟩ := HR.out
  go_ret
  exact ⟨r, by show Ending.returned (.int .i64 ((wrap64 (((k : Int) * 7 + 3) % m + m)).tmod m)) = _; rw [hr], hrm, ⟨_, n, cap, l, k + 1, HT2.out.tick, by omega⟩, HU2.out.trans (Turn.tick _ _ _ _)⟩
theorem Turn.cell {tb b o : Nat} {w w' : World} (h : Turn tb w w') (hb : b < w.heap.size) (hne : b ≠ tb) : w'.cell? ⟨b, o, none⟩ = w.cell? ⟨b, o, none⟩ := World.cell?_of_block (a := ⟨b, o, none⟩) (h.block b hb hne)
theorem pick_any (tb q b n : Nat) (ls : List ByteArray) (w : World) (ht : Tp w tb (q + 1)) (hn : ls.length = n) (hn1 : 1 ≤ n) (hn2 : n ≤ 1000000) (hb : b < w.heap.size) (hne : b ≠ tb)
 (hp : ∀ i s, ls[i]? = some s → w.cell? ⟨b, i, none⟩ = some (.string s)) :
 Calls Tryz.prog 27 #[.pointer (some ⟨tb, 0, none⟩), .slice (some ⟨b, 0, none⟩) n n] w fun e w' => ∃ s ∈ ls, e = .returned (.string s) ∧ Tp w' tb q ∧ Turn tb w w' := by
 have HT := zh ht; have HP := zh hp; have HN := zh hn
 clear ht hp hn
 go_enter Tryz.func27, Tryz.ntmps27
 go_wp2_with fail
 refine (next_any tb n q w HT.out hn1 hn2).mono ?_
 rintro e w1 ⟨r, rfl, hr, ht1, hu1⟩
 have HT1 := zh ht1; have HU1 := zh hu1; clear ht1 hu1
 obtain ⟨s, hs⟩ : ∃ s, ls[r]? = some s := ⟨ls[r]'(by have := HN.out; omega), List.getElem?_eq_getElem _⟩
 have h1 : w1.cell? ⟨b, r, none⟩ = some (.string s) := (HU1.out.cell hb hne).trans (HP.out r s hs)
 have h2 : w1.cell? ⟨b, 0 + r, none⟩ = some (.string s) := by rw [Nat.zero_add]; exact h1
 have HS := zh (List.mem_of_getElem? hs)
 have p1 : (0 : Int) ≤ (r : Int) := by omega
 have p2 : (r : Int) < (n : Int) := by omega
 clear hs
 go_wp2_with fail
 go_ret
 exact ⟨s, HS.out, rfl, HT1.out, HU1.out⟩
theorem strs_alloc (ls : List ByteArray) (w : World) (t : TypeId) (i : Nat) (s : ByteArray) (h : ls[i]? = some s) : (w.alloc (.cells (ls.map Value.string).toArray t)).cell? ⟨w.heap.size, i, none⟩ = some (.string s) := by
 rw [cell_of_row _ w.heap.size i _ _ _ (heap_alloc_new w _)]
 simp [h]
theorem pick_new (tb q n : Nat) (ls : List ByteArray) (w : World) (ht : Tp w tb (q + 1)) (hn : ls.length = n) (hn1 : 1 ≤ n) (hn2 : n ≤ 1000000) :
 Calls Tryz.prog 27 #[.pointer (some ⟨tb, 0, none⟩), .slice (some ⟨w.heap.size, 0, none⟩) n n] (w.alloc (.cells (ls.map Value.string).toArray 9)) fun e w' => ∃ s ∈ ls, e = .returned (.string s) ∧ Tp w' tb q ∧ Turn tb w w' := by
 have hb : Below w.heap.size w (w.alloc (.cells (ls.map Value.string).toArray 9)) := (Below.refl _ _).alloc (Nat.le_refl _) _
 have hlt := ht.lt
 refine (pick_any tb q w.heap.size n ls _ (ht.of hb) hn hn1 hn2 (Array.getElem?_eq_some_iff.1 (heap_alloc_new w _)).1 (by omega) (strs_alloc ls w _)).mono ?_
 rintro e w' ⟨s, hs, he, h1, h2⟩
 exact ⟨s, hs, he, h1, (Turn.of hb).trans h2⟩
theorem results_row1 {P : Program} {fn : Func} {p : Tmp} {ty : TypeId} (h : fn.results = #[.cell p ty]) (tmps : Array Value) (w : World) (g : Nat) (t : TypeId) (cs : Array Value) (fr : Nat × Nat) (d : TypeDesc)
 (hp : tmps.getD p undef = .pointer (some ⟨g, 0, none⟩)) (hg : w.heap[g]? = some (.cells cs t fr))
 (hu : P.underlying ty = some d) (hd : (match d with | .struct _ | .array _ _ => true | _ => false) = true) (hi : (P.info? ty).map (·.size) = some cs.size) :
 (results fn tmps).run P w = .ok (.agg cs) w := by
 have hp' : tmps[p]?.getD undef = .pointer (some ⟨g, 0, none⟩) := by simpa using hp
 simp [results, h, hp', asAddr, run_loadVar_row w g t ty cs fr d hg hu hd hi]
end Go.Proofs.YtecllfbadciaoaaGreatDoor
namespace Go.Proofs.YtecllfbadciaoaaGreatDoor
open Go
def zed : List Int := List.replicate 32 0
end Go.Proofs.YtecllfbadciaoaaGreatDoor
