/-
  Plain mathematics: what is read is encoded as it was, and what is encoded is read (no program is named here but for its name space).
-/
import Derived.Test.YtecllfbadciaoaaGreatDoorZip
import Derived.Test.YtecllfbadciaoaaGreatDoorQ22
import Derived.Deep.Slices
import Derived.ProofKit
import Derived.OpenShut
import Derived.ShutString
import Derived.ChangeOld
import Derived.SliceStrings
set_option maxRecDepth 100000
set_option maxHeartbeats 8000000
namespace Go.Proofs.YtecllfbadciaoaaGreatDoor
open Go.RowKit
theorem hexU_hexVF : ∀ c : Fin 256, hexV (UInt8.ofNat c.val) < 16 → hexU (hexV (UInt8.ofNat c.val)) = UInt8.ofNat c.val := by decide +kernel
theorem hexU_hexV (c : UInt8) (h : hexV c < 16) : hexU (hexV c) = c := by
 have := hexU_hexVF ⟨c.toNat, UInt8.toNat_lt _⟩
 simp only [UInt8.ofNat_toNat] at this
 exact this h
theorem escV_enc {a b v : UInt8} (h : escV a b = some v) : encB v = [37, a, b] := by
 unfold escV at h
 by_cases h1 : hexV a = 16 ∨ hexV b = 16
 ·rw [if_pos h1] at h; cases h
 ·rw [if_neg h1] at h
  have ha : hexV a < 16 := by have := hexV_le a; omega
  have hb : hexV b < 16 := by have := hexV_le b; omega
  by_cases h2 : plnB ((16 * hexV a + hexV b : Nat) : Int) = true
  ·rw [if_pos h2] at h; cases h
  ·rw [if_neg h2] at h
   have e : v = UInt8.ofNat (16 * hexV a + hexV b) := by simpa using h.symm
   have en : v.toNat = 16 * hexV a + hexV b := by rw [e]; simp; omega
   have hp : plnB v.toNat = false := by rw [en]; simpa using h2
   rw [encB_esc hp, en, show (16 * hexV a + hexV b) / 16 = hexV a by omega, show (16 * hexV a + hexV b) % 16 = hexV b by omega, hexU_hexV a ha, hexU_hexV b hb]
theorem unwL_back : ∀ (n : Nat) (t m : List UInt8), t.length ≤ n → unwL t = some m → m.flatMap encB = t
 | _, [], m, _, h => by
   have : m = [] := by simpa [unwL] using h.symm
   subst this; rfl
 | 0, c :: t, _, hn, _ => by simp at hn
 | n + 1, c :: t, m, hn, h => by
   have hn' : t.length ≤ n := by simpa using hn
   by_cases hp : plnB c.toNat = true
   ·rw [unwL_plain hp] at h
    cases hu : unwL t with
    | none => rw [hu] at h; cases h
    | some m' =>
      rw [hu] at h
      have e : m = c :: m' := by simpa using h.symm
      subst e
      rw [List.flatMap_cons, encB_plain hp, unwL_back n t m' hn' hu]; rfl
   ·have hp' : plnB c.toNat = false := by simpa using hp
    by_cases hc : c = 37
    ·subst hc
     rw [unwL_esc] at h
     match t, hn', h with
     | [], _, h => simp [escD] at h
     | [_], _, h => simp [escD] at h
     | a :: b :: r, hn', h =>
       have he : escD (a :: b :: r) = escV a b := rfl
       rw [he] at h
       cases hv : escV a b with
       | none => rw [hv] at h; cases h
       | some v =>
         rw [hv] at h
         have hdr : (a :: b :: r).drop 2 = r := rfl
         rw [hdr] at h
         cases hu : unwL r with
         | none => rw [hu] at h; cases h
         | some m' =>
           rw [hu] at h
           have e : m = v :: m' := by simpa using h.symm
           subst e
           rw [List.flatMap_cons, escV_enc hv, unwL_back n r m' (by simp at hn'; omega) hu]; rfl
    ·rw [unwL_other hp' hc] at h; cases h
theorem unword_back {t m : List UInt8} (h : unword t = some m) : wordL m = t := by
 unfold unword at h
 by_cases h0 : t = []
 ·rw [if_pos h0] at h; cases h
 ·rw [if_neg h0] at h
  by_cases h1 : t = [126]
  ·rw [if_pos h1] at h
   have e : m = [] := by simpa using h.symm
   subst e; rw [h1]; rfl
  ·rw [if_neg h1] at h
   have hb := unwL_back _ t m (Nat.le_refl _) h
   unfold wordL
   split
   ·rename_i hm; subst hm; exact absurd hb.symm h0
   ·exact hb
def glue (c : UInt8) (ws : List ByteArray) : List UInt8 := ws.flatMap fun x => x.data.toList ++ [c]
theorem unwsL_back : ∀ (ws xs : List ByteArray), unwsL ws = some xs → body xs = glue 32 ws
 | [], xs, h => by
   have : xs = [] := by simpa [unwsL] using h.symm
   subst this; rfl
 | s :: r, xs, h => by
   cases hu : unwS s with
   | none => rw [unwsL_none hu] at h; cases h
   | some x =>
     rw [unwsL_some hu] at h
     cases hr : unwsL r with
     | none => rw [hr] at h; cases h
     | some xs' =>
       rw [hr] at h
       have e : xs = x :: xs' := by simpa using h.symm
       subst e
       have h1 := unwsL_back r xs' hr
       have h3 : wordL x.data.toList = s.data.toList := by
        unfold unwS at hu
        cases hw : unword s.data.toList with
        | none => rw [hw] at hu; cases hu
        | some m =>
          rw [hw] at hu
          have e : x = ⟨m.toArray⟩ := by simpa using hu.symm
          subst e
          exact unword_back hw
       unfold body glue at h1 ⊢
       rw [List.flatMap_cons, List.flatMap_cons, h3, h1]
theorem split_glue (c : UInt8) : ∀ (k : Nat) (s : ByteArray), Lib.countB s (oneB c) = k → glue c (Lib.splitB (oneB c) 0 k s) = s.data.toList ++ [c]
 | 0, s, _ => by rw [Lib.splitB_zero]; unfold glue; simp
 | k + 1, s, hk => by
   rcases Lib.indexB_cases s (oneB c) with hix | ⟨i, hix, hroom⟩
   ·rw [Lib.countB_miss s (oneB c) hix] at hk; omega
   ·have ih := split_glue c k (s.extract (i + (oneB c).size) s.size) (by have := Lib.countB_hit s (oneB c) i (Nat.le_refl _) hix; omega)
    rw [Lib.splitB_hit (oneB c) 0 k s i hix]
    unfold glue at ih ⊢
    rw [List.flatMap_cons, ih]
    rw [oneB_size] at hroom ⊢
    rw [indexB_oneS] at hix
    have hi := (Lib.indexByte_some hix).1
    obtain ⟨hlt, hge⟩ := List.getElem?_eq_some_iff.1 hi
    have e1 : (s.extract 0 (i + 0)).data.toList = s.data.toList.take i := by
     rw [ByteArray.data_extract, Array.toList_extract, List.extract_eq_take_drop]; simp
    have e2 : (s.extract (i + 1) s.size).data.toList = s.data.toList.drop (i + 1) := by
     rw [ByteArray.data_extract, Array.toList_extract, List.extract_eq_take_drop]
     exact List.take_of_length_le (by rw [List.length_drop, ← Lib.size_eq]; exact Nat.le_refl _)
    rw [e1, e2]
    have h := List.take_append_drop i s.data.toList
    rw [List.drop_eq_getElem_cons hlt, hge] at h
    have e3 : s.data.toList.take i ++ [c] ++ (s.data.toList.drop (i + 1) ++ [c]) = (s.data.toList.take i ++ c :: s.data.toList.drop (i + 1)) ++ [c] := by simp
    rw [e3, h]
theorem line_back {s : ByteArray} {xs : List ByteArray} (h : unwsL (pcs 32 s) = some xs) : lineL xs = s.data.toList ++ [10] := by
 have h1 := unwsL_back _ _ h
 have h2 := split_glue 32 _ s rfl
 unfold pcs at h1
 unfold lineL
 rw [h1, h2]; simp
theorem unlL_back : ∀ (ws : List ByteArray) (L : List (List ByteArray)), unlL ws = some L → encL L = glue 10 ws
 | [], L, h => by
   have : L = [] := by simpa [unlL] using h.symm
   subst this; rfl
 | s :: r, L, h => by
   cases hu : unwsL (pcs 32 s) with
   | none => rw [unlL_none hu] at h; cases h
   | some x =>
     rw [unlL_some hu] at h
     cases hr : unlL r with
     | none => rw [hr] at h; cases h
     | some L' =>
       rw [hr] at h
       have e : L = x :: L' := by simpa using h.symm
       subst e
       have h1 := unlL_back r L' hr
       have h2 := line_back hu
       unfold encL glue at h1 ⊢
       rw [List.flatMap_cons, List.flatMap_cons, h2, h1]
theorem rdoc_back {S : ByteArray} {L : List (List ByteArray)} (h : rdoc S = some L) : encL L = S.data.toList := by
 unfold rdoc at h
 by_cases h0 : S.data.toList = []
 ·rw [if_pos h0] at h
  have e : L = [] := by simpa using h.symm
  subst e; rw [h0]; rfl
 ·rw [if_neg h0] at h
  by_cases h1 : endN S = true
  ·rw [if_pos h1] at h
   have h2 := unlL_back _ _ h
   have h3 := split_glue 10 _ (S.extract 0 (S.size - 1)) rfl
   unfold pcs at h2
   rw [h2, h3]
   unfold endN at h1
   have h4 : S.data.toList.getLast? = some 10 := by simpa using h1
   rw [ByteArray.data_extract, Array.toList_extract, List.extract_eq_take_drop, List.drop_zero, Nat.sub_zero, Lib.size_eq, ← List.dropLast_eq_take]
   obtain ⟨ys, hy⟩ := List.getLast?_eq_some_iff.1 h4
   rw [hy, List.dropLast_concat]
  ·rw [if_neg h1] at h; cases h
theorem glue_end (c : UInt8) (ps : List ByteArray) (h : ps ≠ []) : ∃ rest, glue c ps = rest ++ [c] := by
 obtain ⟨r, p, rfl⟩ : ∃ r p, ps = r ++ [p] := ⟨ps.dropLast, ps.getLast h, (List.dropLast_concat_getLast h).symm⟩
 exact ⟨glue c r ++ p.data.toList, by unfold glue; rw [List.flatMap_append]; simp⟩
theorem split_free (c : UInt8) : ∀ (ps : List ByteArray), ps ≠ [] → (∀ p ∈ ps, ∀ x ∈ p.data.toList, x ≠ c) → ∀ s : ByteArray, s.data.toList ++ [c] = glue c ps → pcs c s = ps
 | [], h, _, _, _ => absurd rfl h
 | [p], _, hf, s, hs => by
   have e : s.data.toList = p.data.toList := by
    have : glue c [p] = p.data.toList ++ [c] := by unfold glue; simp
    rw [this] at hs
    exact List.append_cancel_right hs
   have es : s = p := by apply ByteArray.ext; apply Array.ext'; exact e
   subst es
   have hm : Lib.indexB s (oneB c) = -1 := by
    rcases Lib.indexB_cases s (oneB c) with hix | ⟨i, hix, _⟩
    ·exact hix
    ·exfalso
     rw [indexB_oneS] at hix
     have hi := (Lib.indexByte_some hix).1
     exact hf s (by simp) c (List.mem_of_getElem? hi) rfl
   unfold pcs
   exact splitB_missS s c hm _
 | p :: q :: r, _, hf, s, hs => by
   obtain ⟨rest, hr⟩ := glue_end c (q :: r) (by simp)
   have hsl : s.data.toList = p.data.toList ++ c :: rest := by
    have : glue c (p :: q :: r) = (p.data.toList ++ c :: rest) ++ [c] := by
     unfold glue at hr ⊢
     rw [List.flatMap_cons, hr]; simp
    rw [this] at hs
    exact List.append_cancel_right hs
   have hpl : p.data.toList.length = p.size := (Lib.size_eq p).symm
   have hat : s.data.toList[p.size]? = some c := by
    rw [hsl, List.getElem?_append_right (by omega), hpl, Nat.sub_self]; rfl
   have hix : Lib.indexB s (oneB c) = (p.size : Int) := by
    rcases Lib.indexB_cases s (oneB c) with h1 | ⟨i, h1, _⟩
    ·rw [indexB_oneS] at h1
     exact absurd hat (Lib.indexByte_none h1 _)
    ·rw [h1]
     rw [indexB_oneS] at h1
     obtain ⟨h2, h3⟩ := Lib.indexByte_some h1
     have hle : ¬ p.size < i := fun h => h3 p.size h hat
     have hge : ¬ i < p.size := fun h => by
      rw [hsl, List.getElem?_append_left (by omega)] at h2
      exact hf p (by simp) c (List.mem_of_getElem? h2) rfl
     have : i = p.size := by omega
     rw [this]
   have ssz : s.size = p.size + 1 + rest.length := by rw [Lib.size_eq, hsl, List.length_append, List.length_cons, hpl]; omega
   have e1 : s.extract 0 (p.size + 0) = p := by
    apply ByteArray.ext; apply Array.ext'
    rw [ByteArray.data_extract, Array.toList_extract, List.extract_eq_take_drop, hsl, List.drop_zero, show p.size + 0 - 0 = p.data.toList.length by omega, List.take_left]
   have e2 : (s.extract (p.size + 1) s.size).data.toList = rest := by
    rw [ByteArray.data_extract, Array.toList_extract, List.extract_eq_take_drop, hsl, List.drop_append]
    rw [List.drop_eq_nil_of_le (by omega), hpl, show p.size + 1 - p.size = 1 by omega]
    show ([] ++ rest).take _ = rest
    rw [List.nil_append, List.take_of_length_le (by omega)]
   have ih := split_free c (q :: r) (by simp) (fun x hx => hf x (List.mem_cons_of_mem _ hx)) (s.extract (p.size + 1) s.size) (by rw [e2, hr])
   unfold pcs at ih ⊢
   rw [Lib.countB_hit s (oneB c) p.size (Nat.le_refl _) hix, oneB_size, Nat.add_comm 1, Lib.splitB_hit (oneB c) 0 _ s p.size hix, oneB_size, e1, ih]
def wordB (x : ByteArray) : ByteArray := ⟨(wordL x.data.toList).toArray⟩
def rowBk (l : List ByteArray) : ByteArray := ⟨(body l).dropLast.toArray⟩
theorem body_glue (l : List ByteArray) : body l = glue 32 (l.map wordB) := by
 unfold body glue
 rw [List.flatMap_map]; rfl
theorem row_glue {l : List ByteArray} (h : l ≠ []) : (rowBk l).data.toList ++ [32] = body l := by
 obtain ⟨rest, hr⟩ := glue_end 32 (l.map wordB) (by simpa using h)
 show (body l).dropLast ++ [32] = body l
 rw [body_glue, hr, List.dropLast_concat]
theorem wordB_free (x : ByteArray) : ∀ y ∈ (wordB x).data.toList, y ≠ 32 ∧ y ≠ 10 := by
 intro y hy
 have := wordL_range x.data.toList y hy
 exact ⟨fun e => by rw [e] at this; exact absurd this.1 (by decide), fun e => by rw [e] at this; exact absurd this.1 (by decide)⟩
theorem unwsL_words : ∀ l : List ByteArray, unwsL (l.map wordB) = some l
 | [] => rfl
 | x :: r => by
   have h : unwS (wordB x) = some x := by
    unfold unwS wordB
    show (unword (wordL x.data.toList)).map _ = _
    rw [unword_wordL]; simp
   rw [List.map_cons, unwsL_some h, unwsL_words r]; rfl
theorem row_read {l : List ByteArray} (h : l ≠ []) : unwsL (pcs 32 (rowBk l)) = some l := by
 rw [split_free 32 (l.map wordB) (by simpa using h) (fun p hp => ?_) (rowBk l) (by rw [row_glue h, body_glue]), unwsL_words]
 obtain ⟨x, _, rfl⟩ := List.mem_map.1 hp
 exact fun y hy => (wordB_free x y hy).1
theorem row_free (l : List ByteArray) : ∀ y ∈ (rowBk l).data.toList, y ≠ 10 := by
 intro y hy
 have hy2 : y ∈ body l := List.dropLast_subset _ hy
 unfold body at hy2
 obtain ⟨x, _, hx⟩ := List.mem_flatMap.1 hy2
 rcases List.mem_append.1 hx with h | h
 ·exact (wordB_free x y h).2
 ·rw [List.mem_singleton.1 h]; decide
theorem encL_glue (ls : List (List ByteArray)) : encL ls = glue 10 (ls.map rowBk) := by
 unfold encL glue
 rw [List.flatMap_map]; rfl
theorem unlL_rows : ∀ ls : List (List ByteArray), (∀ l ∈ ls, l ≠ []) → unlL (ls.map rowBk) = some ls
 | [], _ => rfl
 | l :: r, h => by
   rw [List.map_cons, unlL_some (row_read (h l (by simp))), unlL_rows r (fun x hx => h x (List.mem_cons_of_mem _ hx))]; rfl
theorem firstBad_ne : ∀ ls : List (List ByteArray), firstBad ls = 0 → ∀ l ∈ ls, l ≠ []
 | [], _, l, hl => by cases hl
 | x :: r, h, l, hl => by
   unfold firstBad at h
   by_cases hx : chkLine x = 0
   ·rw [if_pos hx] at h
    rcases List.mem_cons.1 hl with e | e
    ·subst e; rintro rfl; unfold chkLine at hx; simp at hx
    ·exact firstBad_ne r h l e
   ·rw [if_neg hx] at h; exact absurd h hx
theorem chk_ne {ls : List (List ByteArray)} (h : chk ls = 0) : ∀ l ∈ ls, l ≠ [] := by
 unfold chk at h
 split at h
 ·cases h
 ·exact firstBad_ne ls h
theorem rdoc_enc_back {ls : List (List ByteArray)} (h : chk ls = 0) : rdoc ⟨(encL ls).toArray⟩ = some ls := by
 by_cases h0 : ls = []
 ·subst h0; rfl
 ·obtain ⟨rest, hr⟩ := glue_end 10 (ls.map rowBk) (by simpa using h0)
  have he := encL_glue ls
  have hd : (⟨(encL ls).toArray⟩ : ByteArray).data.toList = rest ++ [10] := by show encL ls = _; rw [he, hr]
  unfold rdoc
  rw [if_neg (by rw [hd]; simp), if_pos (by unfold endN; rw [hd]; simp)]
  have e : ((⟨(encL ls).toArray⟩ : ByteArray).extract 0 ((⟨(encL ls).toArray⟩ : ByteArray).size - 1)).data.toList = rest := by
   rw [ByteArray.data_extract, Array.toList_extract, List.extract_eq_take_drop, List.drop_zero, Nat.sub_zero, Lib.size_eq, hd]
   simp
  rw [split_free 10 (ls.map rowBk) (by simpa using h0) (fun p hp => ?_) _ (by rw [e, hr]), unlL_rows ls (chk_ne h)]
  obtain ⟨x, _, rfl⟩ := List.mem_map.1 hp
  exact row_free x
theorem decC_ok {S : ByteArray} {L : List (List ByteArray)} (h : decC S = (0, L)) : rdoc S = some L ∧ chk L = 0 ∧ S.size ≤ 262144 := by
 unfold decC at h
 by_cases hb : 262144 < S.size
 ·rw [if_pos hb] at h; cases h
 ·rw [if_neg hb] at h
  cases hr : rdoc S with
  | none => rw [hr] at h; cases h
  | some L' =>
    rw [hr] at h
    by_cases hk : chk L' = 0
    ·have h' : (if chk L' = 0 then (0, L') else (2, [])) = (0, L) := h
     rw [if_pos hk] at h'
     have e : L' = L := by injection h'
     subst e
     exact ⟨rfl, hk, by omega⟩
    ·have h' : (if chk L' = 0 then ((0, L') : Nat × List (List ByteArray)) else (2, [])) = (0, L) := h
     rw [if_neg hk] at h'
     cases h'
theorem enc_back {S : ByteArray} {L : List (List ByteArray)} (h : decC S = (0, L)) : enc L = (0, S.data.toList) := by
 obtain ⟨h1, h2, h3⟩ := decC_ok h
 have h4 := rdoc_back h1
 unfold enc
 rw [if_pos h2, h4, if_neg (by rw [← Lib.size_eq]; omega)]
theorem dec_back {wl : List (List ByteArray)} (h : (enc wl).1 = 0) : decC ⟨((enc wl).2).toArray⟩ = (0, wl) := by
 unfold enc at h ⊢
 by_cases hk : chk wl = 0
 ·rw [if_pos hk] at h ⊢
  by_cases hl : 262144 < (encL wl).length
  ·rw [if_pos hl] at h; cases h
  ·rw [if_neg hl]
   have hr := rdoc_enc_back hk
   unfold decC
   rw [if_neg (by show ¬ 262144 < (encL wl).toArray.size; rw [List.size_toArray]; exact hl)]
   show (match rdoc ⟨(encL wl).toArray⟩ with | none => (2, []) | some L => if chk L = 0 then (0, L) else (2, [])) = (0, wl)
   rw [hr]
   show (if chk wl = 0 then ((0, wl) : Nat × List (List ByteArray)) else (2, [])) = (0, wl)
   rw [if_pos hk]
 ·rw [if_neg hk] at h; exact absurd h hk
theorem bsrc_own {w : World} {base : Nat} {sp : Option Addr} {cap : Nat} {X : List UInt8} (h : w.ownsRow base 5 1 (.slice sp X.length cap) X.length (Lib.byteCells X)) : BSrc w w.heap.size sp X.length cap X := by
 refine ⟨rfl, fun hn => ?_⟩
 obtain ⟨_, ⟨_, h2⟩ | ⟨g, c, u, e, _, hg, hle, _, hs, ht⟩⟩ := h
 ·omega
 ·injection e with e1 e2 e3
  subst e3
  refine ⟨g, 0, e1, (Array.getElem?_eq_some_iff.1 hg).1, hle, fun j hj => ?_⟩
  rw [cell_of_row w g (0 + j) u _ _ hg, Nat.zero_add]
  have h5 : (u.toList.take (X.length * 1))[j]? = some (.int .u8 (X[j].toNat : Int)) := by rw [ht]; simp [Lib.byteCells, hj]
  rw [List.getElem?_take, if_pos (by omega)] at h5
  simpa using h5
theorem bsrc_mem {w w' : World} {sp : Option Addr} {n cap : Nat} {l : List UInt8} (h : BSrc w w.heap.size sp n cap l) (hb : Below w.heap.size w w') : BSrc w' w'.heap.size sp n cap l :=
 ⟨h.len, fun hn => by obtain ⟨bb, off, e, h1, h2, h3⟩ := (h.below hb (Nat.le_refl _)).cells hn; exact ⟨bb, off, e, Nat.lt_of_lt_of_le h1 hb.size, h2, h3⟩⟩
theorem encR_zero {x : Rc} (h : (encR x).1 = 0) : rcB x = true ∧ encR x = enc (linesR x) := by
 unfold encR at h ⊢
 by_cases hv : rcB x = true
 ·rw [if_pos hv]; exact ⟨hv, rfl⟩
 ·rw [if_neg hv] at h; cases h
theorem dec_encR {x : Rc} {w : World} (hx : RcIn x w) (h : (encR x).1 = 0) : decW (decC ⟨((encR x).2).toArray⟩) = (0, x.pl) := by
 obtain ⟨hv, he⟩ := encR_zero h
 rw [he] at h ⊢
 rw [dec_back h]
 obtain ⟨h1, h2⟩ := round1 hv hx.m.ok hx.p.ok
 unfold decW
 simp only [ne_eq, not_true_eq_false, if_false]
 rw [if_pos h1, h2, if_pos (by rw [← rcB_pl]; exact hv)]
theorem decW_zero {D : Nat × List (List ByteArray)} (h : (decW D).1 = 0) : D.1 = 0 ∧ formedR D.2 = true ∧ rpB (recP D.2) = true ∧ (decW D).2 = recP D.2 := by
 unfold decW at h ⊢
 by_cases h0 : D.1 = 0
 ·rw [if_neg (by simp [h0])] at h ⊢
  by_cases hf : formedR D.2 = true
  ·rw [if_pos hf] at h ⊢
   by_cases hr : rpB (recP D.2) = true
   ·rw [if_pos hr]; exact ⟨h0, hf, hr, rfl⟩
   ·rw [if_neg hr] at h; cases h
  ·rw [if_neg hf] at h; cases h
 ·rw [if_pos h0] at h; exact absurd h h0
theorem enc_dec {S : ByteArray} (h : (decW (decC S)).1 = 0) {y : Rc} (hy : y.pl = (decW (decC S)).2) : encR y = (0, S.data.toList) := by
 obtain ⟨h0, hf, hr, h2⟩ := decW_zero h
 rw [h2] at hy
 unfold encR
 rw [rcB_pl, hy, if_pos hr, round2 hf hy]
 exact enc_back (Prod.ext h0 rfl)
theorem recordBack_any (raw : Rc) (bsp : Option Addr) (bn bcap : Nat) (bl : List UInt8) (tsp : Option Addr) (tn tcap : Nat) (tl : List Int) (w : World) (hx : RcAt raw w) (hbs : BSrc w w.heap.size bsp bn bcap bl) (ht : TapeIn w tsp tn tcap tl) (hp : Lib.TabIs Tryz.prog w "internal/strconv.uint64pow10" .u64 Lib.pow10Tab) (hg : 1 < w.heap.size) :
 Calls Tryz.prog 4 #[.agg raw.L.toArray, .slice bsp bn bcap, .slice tsp tn tcap] w fun e w' => e = .returned (.bool true) ∧ Below w.heap.size w w' := by
 have hb0 : Below w.heap.size w (w.alloc (.cells raw.L.toArray 31)) := (Below.refl _ _).alloc (Nat.le_refl _) _
 have HR0 : Hid ((w.alloc (.cells raw.L.toArray 31)).heap[w.heap.size]? = some (.cells raw.L.toArray 31 (0, 0))) := heap_alloc_new _ _
 have HX0 := zh (hx.below hb0); have HT0 := zh (ht.below hb0); have HB0 := zh hb0; have HBS := zh hbs
 have HP := zh hp; have HG := zh hg
 clear hx ht hb0 hp hg hbs
 by_cases hbig : 100000 < bn
 ·have hd : decide ((bn : Int) > 100000) = true := by simp; omega
  go_enter Tryz.func4, Tryz.ntmps4
  go_upto_region 1 with fail
  generalize World.alloc w _ = w0 at *
  go_wp2_with fail
  go_ret
  exact ⟨rfl, HB0.out⟩
 have hd : decide ((bn : Int) > 100000) = false := by simp; omega
 go_enter Tryz.func4, Tryz.ntmps4
 go_upto_region 1 with fail
 generalize World.alloc w _ = w0 at *
 have HRS := zh (records_any raw tsp tn tcap tl w0 HX0.out HT0.out)
 clear HX0 HT0 hbig
 go_wp2_with (refine wpList_load_row rfl 31 _ rfl w.heap.size rfl 31 _ (0, 0) _ HR0.out Tryz.underlying31 rfl (infoRcA raw) ?_)
 clear hd
 refine HRS.out.mono ?_
 rintro e w1 ⟨sp, n, cap, l, rfl, hin, hn3, hb⟩
 have HIN := zh hin
 have HB1 : Hid (Below w.heap.size w w1) := HB0.out.trans (hb.mono HB0.out.size)
 clear hin hb HRS HR0 HB0
 go_wp2_with fail
 go_loopw [24] (fun i wr => ∃ k : Nat, i = .int .i64 k ∧ k ≤ n ∧ Hid (RcsIn wr sp n cap l) ∧ Hid (Below w.heap.size w wr)) (fun i _ => n - (intOf i).toNat)
 case atStart => exact ⟨0, rfl, by omega, HIN.out, HB1.out⟩
 case round =>
  obtain ⟨k, rfl, hk2, HI, HB⟩ := hrel
  clear HIN HB1
  by_cases hlt : k < n
  ·have hd : decide ((k : Int) < (n : Int)) = true := by simp; omega
   obtain ⟨b, off, rfl, hbl, hcap, hcell⟩ := HI.out.cells (by omega)
   have hkl : k < l.length := by have := HI.out.len; omega
   obtain ⟨x, hxk⟩ : ∃ x, l[k]? = some x := ⟨_, List.getElem?_eq_getElem hkl⟩
   have HROW := zh (hcell k x hxk)
   have HXI := zh (HI.out.recs x (List.mem_of_getElem? hxk))
   clear hcell hkl hxk hbl hcap
   have p1 : (0 : Int) ≤ (k : Int) := by omega
   have p2 : (k : Int) < (n : Int) := by omega
   have HZS := zh (heap_alloc_new wr (.cells zRc 31))
   go_upto_region 6 with (first
    | (refine wpList_load_mid rfl 31 _ rfl b (off + k * 8) rfl _ _ HROW.out Tryz.underlying31 rfl (infoRc x) ?_)
    | (refine wpList_store_row rfl 31 _ _ rfl wr.heap.size x.L.toArray rfl rfl 31 _ HZS.out (infoRcA x) rfl (oneRc x) ?_; rw [setRow_new]; have HBr4 : Hid (Below wr.heap.size wr (wr.alloc (.cells x.L.toArray 31))) := (Below.refl _ _).alloc (Nat.le_refl _) _; have HX4 : Hid ((wr.alloc (.cells x.L.toArray 31)).heap[wr.heap.size]? = some (.cells x.L.toArray 31 (0, 0))) := heap_alloc_new _ _; clear HZS; generalize World.alloc wr (.cells x.L.toArray 31) = w4 at *))
   clear p1 p2
   obtain ⟨gX, hgX⟩ : ∃ gX, gX = wr.heap.size := ⟨_, rfl⟩
   rw [← hgX] at HX4
   rw [← hgX]
   have HLX4 : Hid (gX < w4.heap.size) := (Array.getElem?_eq_some_iff.1 HX4.out).1
   have HXI4 : Hid (RcIn x w4) := HXI.out.below HBr4.out
   have HIN4 : Hid (RcsIn w4 (some ⟨b, off, none⟩) n cap l) := HI.out.up HBr4.out
   have HB4 : Hid (Below w.heap.size w w4) := HB.out.trans (HBr4.out.mono HB.out.size)
   have HEN := zh (encodeR_any x w4 HXI4.out (tabIs_belowR HP.out HB4.out HG.out) (Nat.lt_of_lt_of_le HG.out HB4.out.size))
   have HDE := zh (fun h => dec_encR HXI4.out h)
   clear hgX HBr4 HROW HXI HI HB
   go_wp2_with (refine wpList_load_row rfl 31 _ rfl gX rfl 31 _ (0, 0) _ HX4.out Tryz.underlying31 rfl (infoRcA x) ?_)
   refine HEN.out.mono ?_
   rintro e w5 ⟨v1, rfl, hv1, hb5⟩
   have HV5 := hv1; have HB45 := zh hb5
   clear hv1 hb5 HEN
   obtain ⟨s1, cp1, rfl⟩ := own_shapeQ HV5.out
   have HX5 : Hid (w5.heap[gX]? = some (.cells x.L.toArray 31 (0, 0))) := (HB45.out.block _ HLX4.out).trans HX4.out
   have HXI5 : Hid (RcIn x w5) := HXI4.out.below HB45.out
   have HIN5 : Hid (RcsIn w5 (some ⟨b, off, none⟩) n cap l) := HIN4.out.up HB45.out
   have HB5 : Hid (Below w.heap.size w w5) := HB4.out.trans (HB45.out.mono HB4.out.size)
   have HDX := zh (decodeR_any s1 _ cp1 _ w5 (bsrc_own HV5.out))
   clear HX4 HLX4 HXI4 HIN4 HB4 HB45 HV5
   obtain ⟨E, hE⟩ : ∃ E, E = (encR x).1 := ⟨_, rfl⟩
   rw [← hE] at HDE
   rw [← hE]
   clear hE
   by_cases hc : E = 0
   case neg =>
    have hd2 : ((E : Int) != 0) = true := by rw [bne_iff_ne]; omega
    have hd3 : decide ((E : Int) = 0) = false := by rw [decide_eq_false_iff_not]; omega
    have hd4 : ((E : Int) == 0) = false := by rw [beq_eq_false_iff_ne]; omega
    clear HDX HDE
    go_wp2_with fail
    go_roundw
    case rel => exact ⟨k + 1, by go_num, by omega, HIN5.out, HB5.out⟩
    case measure => simp [intOf]; omega
   subst hc
   rw [HDE.out rfl] at HDX
   clear HDE
   go_wp2_with fail
   refine HDX.out.mono ?_
   rintro e w6 ⟨y, rfl, hyi, hypl, hb6⟩
   have HYI := hyi; have HYP := zh hypl; have HB56 := zh hb6
   clear hyi hypl hb6 HDX
   have HLX5 : Hid (gX < w5.heap.size) := (Array.getElem?_eq_some_iff.1 HX5.out).1
   have HX6 : Hid (w6.heap[gX]? = some (.cells x.L.toArray 31 (0, 0))) := (HB56.out.block _ HLX5.out).trans HX5.out
   have HXI6 : Hid (RcIn x w6) := HXI5.out.below HB56.out
   have HIN6 : Hid (RcsIn w6 (some ⟨b, off, none⟩) n cap l) := HIN5.out.up HB56.out
   have HB6 : Hid (Below w.heap.size w w6) := HB5.out.trans (HB56.out.mono HB5.out.size)
   clear HX5 HXI5 HIN5 HB5 HB56 HLX5
   have HZY := zh (heap_alloc_new w6 (.cells zRc 31))
   go_upto_region 9 with (refine wpList_store_row rfl 31 _ _ rfl w6.heap.size y.L.toArray rfl rfl 31 _ HZY.out (infoRcA y) rfl (oneRc y) ?_; rw [setRow_new]; have HB67 : Hid (Below w6.heap.size w6 (w6.alloc (.cells y.L.toArray 31))) := (Below.refl _ _).alloc (Nat.le_refl _) _; have HY7 : Hid ((w6.alloc (.cells y.L.toArray 31)).heap[w6.heap.size]? = some (.cells y.L.toArray 31 (0, 0))) := heap_alloc_new _ _; clear HZY; generalize World.alloc w6 (.cells y.L.toArray 31) = w7 at *)
   have HLX6 : Hid (gX < w6.heap.size) := (Array.getElem?_eq_some_iff.1 HX6.out).1
   have HX7 : Hid (w7.heap[gX]? = some (.cells x.L.toArray 31 (0, 0))) := (HB67.out.block _ HLX6.out).trans HX6.out
   have HXI7 : Hid (RcIn x w7) := HXI6.out.below HB67.out
   have HYI7 : Hid (RcIn y w7) := HYI.out.below HB67.out
   have HIN7 : Hid (RcsIn w7 (some ⟨b, off, none⟩) n cap l) := HIN6.out.up HB67.out
   have HB7 : Hid (Below w.heap.size w w7) := HB6.out.trans (HB67.out.mono HB6.out.size)
   have HSA := zh (sameR_any x y w7 HXI7.out HYI7.out HYP.out.symm)
   obtain ⟨gY, hgY⟩ : ∃ gY, gY = w6.heap.size := ⟨_, rfl⟩
   rw [← hgY] at HY7
   rw [← hgY]
   clear hgY HX6 HXI6 HIN6 HB6 HB67 HLX6 HYI HYP HXI7 HYI7
   go_wp2_with (first
    | (refine wpList_load_row rfl 31 _ rfl gX rfl 31 _ (0, 0) _ HX7.out Tryz.underlying31 rfl (infoRcA x) ?_)
    | (refine wpList_load_row rfl 31 _ rfl gY rfl 31 _ (0, 0) _ HY7.out Tryz.underlying31 rfl (infoRcA y) ?_)
    | (refine wpList_load_row_g (by rfl) 31 _ rfl gX rfl 31 _ (0, 0) _ HX7.out Tryz.underlying31 rfl (infoRcA x) ?_)
    | (refine wpList_load_row_g (by rfl) 31 _ rfl gY rfl 31 _ (0, 0) _ HY7.out Tryz.underlying31 rfl (infoRcA y) ?_))
   refine HSA.out.mono ?_
   rintro e w8 ⟨rfl, hb8⟩
   have HB78 := zh hb8
   clear hb8 HSA HX7 HY7
   go_wp2_with fail
   go_roundw
   case rel => exact ⟨k + 1, by go_num, by omega, HIN7.out.up HB78.out, HB7.out.trans (HB78.out.mono HB7.out.size)⟩
   case measure => simp [intOf]; omega
  ·obtain rfl : k = n := by omega
   have hd : decide ((k : Int) < (k : Int)) = false := by simp
   have HBR : Hid (BSrc wr wr.heap.size bsp bn bcap bl) := bsrc_mem HBS.out HB.out
   have HDX := zh (decodeR_any bsp bn bcap bl wr HBR.out)
   have HED := zh (fun (y : Rc) h hy => enc_dec (S := ⟨bl.toArray⟩) (y := y) h hy)
   obtain ⟨D, hD⟩ : ∃ D, D = decW (decC ⟨bl.toArray⟩) := ⟨_, rfl⟩
   rw [← hD] at HDX HED
   clear hD HI
   go_wp2_with fail
   refine HDX.out.mono ?_
   rintro e w6 ⟨y, rfl, hyi, hypl, hb6⟩
   have HYI := hyi; have HYP := zh hypl
   have HB6 : Hid (Below w.heap.size w w6) := HB.out.trans (hb6.mono HB.out.size)
   clear hyi hypl hb6 HDX HB HBR hd
   have HZY := zh (heap_alloc_new w6 (.cells zRc 31))
   go_upto_region 13 with (refine wpList_store_row rfl 31 _ _ rfl w6.heap.size y.L.toArray rfl rfl 31 _ HZY.out (infoRcA y) rfl (oneRc y) ?_; rw [setRow_new]; have HB67 : Hid (Below w6.heap.size w6 (w6.alloc (.cells y.L.toArray 31))) := (Below.refl _ _).alloc (Nat.le_refl _) _; have HY7 : Hid ((w6.alloc (.cells y.L.toArray 31)).heap[w6.heap.size]? = some (.cells y.L.toArray 31 (0, 0))) := heap_alloc_new _ _; clear HZY; generalize World.alloc w6 (.cells y.L.toArray 31) = w7 at *)
   have HYI7 : Hid (RcIn y w7) := HYI.out.below HB67.out
   have HB7 : Hid (Below w.heap.size w w7) := HB6.out.trans (HB67.out.mono HB6.out.size)
   generalize w6.heap.size = gY at *
   clear HB6 HB67 HYI
   by_cases hc : D.1 = 0
   case neg =>
    have hd2 : ((D.1 : Int) != 0) = true := by rw [bne_iff_ne]; omega
    have hd3 : decide ((D.1 : Int) = 0) = false := by rw [decide_eq_false_iff_not]; omega
    have hd4 : ((D.1 : Int) == 0) = false := by rw [beq_eq_false_iff_ne]; omega
    have HA := zh (awake12_any w7 (tabIs_belowR HP.out HB7.out HG.out) (Nat.lt_of_lt_of_le HG.out HB7.out.size))
    clear HED HYI7 HY7
    go_wp2_with fail
    refine HA.out.mono ?_
    rintro e w9 ⟨rfl, hb⟩
    have HB9 : Hid (Below w.heap.size w w9) := HB7.out.trans (hb.mono HB7.out.size)
    clear hb HA
    go_wp2_with fail
    go_ret
    exact ⟨rfl, HB9.out⟩
   have hy2 : encR y = (0, bl) := HED.out y hc HYP.out
   have hd2 : ((D.1 : Int) != 0) = false := by rw [bne_eq_false_iff_eq]; omega
   have hd3 : decide ((D.1 : Int) = 0) = true := by rw [decide_eq_true_iff]; omega
   have hd4 : ((D.1 : Int) == 0) = true := by rw [beq_iff_eq]; omega
   have HEN := zh (encodeR_any y w7 HYI7.out (tabIs_belowR HP.out HB7.out HG.out) (Nat.lt_of_lt_of_le HG.out HB7.out.size))
   unfold EncAns at HEN
   rw [hy2] at HEN
   clear HED hy2 HYP HYI7 hc
   go_wp2_with (refine wpList_load_row rfl 31 _ rfl gY rfl 31 _ (0, 0) _ HY7.out Tryz.underlying31 rfl (infoRcA y) ?_)
   refine HEN.out.mono ?_
   rintro e w8 ⟨v1, rfl, hv1, hb8⟩
   have HV8 := hv1
   have HB8 : Hid (Below w.heap.size w w8) := HB7.out.trans (hb8.mono HB7.out.size)
   have HA := zh (awake12_any w8 (tabIs_belowR HP.out HB8.out HG.out) (Nat.lt_of_lt_of_le HG.out HB8.out.size))
   clear hv1 hb8 HEN HY7 HB7 hd2 hd3 hd4
   go_wp2_with fail
   refine HA.out.mono ?_
   rintro e w9 ⟨rfl, hb9⟩
   have HB9 : Hid (Below w.heap.size w w9) := HB8.out.trans (hb9.mono HB8.out.size)
   have hs1 := run_string_own (own_belowG HV8.out hb9)
   have hs2 := run_conv_src (c2 := bcap) (bsrc_mem HBS.out HB9.out)
   clear hb9 HA HB8 HV8 HBS
   go_wp2_with fail
   go_ret
   exact ⟨ret_bool (by simp), HB9.out⟩
theorem recordBack_args (raw : Rc) (bsp : Option Addr) (bn bcap : Nat) (bl : List UInt8) (tsp : Option Addr) (tn tcap : Nat) (tl : List Int) (w : World) (hx : RcAt raw w) (hbs : BSrc w w.heap.size bsp bn bcap bl) (ht : IntsT w w.heap.size tsp tn tcap tl) (hp : Lib.TabIs Tryz.prog w "internal/strconv.uint64pow10" .u64 Lib.pow10Tab) (hg : 1 < w.heap.size) :
 Calls Tryz.prog 4 #[.agg raw.L.toArray, .slice bsp bn bcap, .slice tsp tn tcap] w fun e w' => e = .returned (.bool true) ∧ Below w.heap.size w w' :=
 recordBack_any raw bsp bn bcap bl tsp tn tcap tl w hx hbs ⟨ht.len, ht.cells, ht.wide, ht.short⟩ hp hg
end Go.Proofs.YtecllfbadciaoaaGreatDoor
namespace Go.Proofs.YtecllfbadciaoaaGreatDoor
open Go.ChangeShapes Go.WideShapes Go.ChangeAt Go.RowKit
theorem digest_cellsD {H : Type} {enc : TypeId × Value → H} {W : World} {base fuel : Nat} {spare : Nat → Bool} {held : Bool} {cs : List Value} {x : DataW H × List MemPlace}
 (h : DataW.trod enc Tryz.prog W base spare held fuel 80 cs = some x) : ∃ L : List Int, cs = L.map (Value.int .u8) ∧ D32 L := by
 have c5 : Tryz.prog.cellsOf 5 = 1 := by kernel_rfl
 have c25 : Tryz.prog.cellsOf 80 = 32 := by kernel_rfl
 obtain ⟨xs, m, _, _, hl, hx, hall⟩ := DataW.trod_array Tryz.underlying80 h
 rw [c25] at hl
 rw [c5] at hall
 have each : ∀ i, (hi : i < cs.length) → cs[i] = .int .u8 (intOf cs[i]) ∧ 0 ≤ intOf cs[i] ∧ intOf cs[i] < 256 := by
  intro i hi
  have h1 := hall i (by omega)
  rw [List.getElem?_eq_getElem (by omega)] at h1
  have e1 : (cs.drop (i * 1)).take 1 = [cs[i]] := by
   rw [Nat.mul_one, List.drop_eq_getElem_cons hi, List.take_succ_cons, List.take_zero]
  rw [e1] at h1
  obtain ⟨n, e0, _, wn⟩ := DataW.trod_int Tryz.underlying5 h1
  have hn := bounds_u8 wn
  have e2 : cs[i] = .int .u8 n := by simpa using e0
  rw [e2]
  exact ⟨rfl, by simpa [intOf] using hn.1, by simp [intOf]; omega⟩
 refine ⟨cs.map intOf, ?_, by simp [hl], fun y hy => ?_⟩
 ·apply List.ext_getElem
  ·simp
  ·intro i h1 h2
   simp only [List.getElem_map]
   exact (each i h1).1
 ·obtain ⟨v, hv, rfl⟩ := List.mem_map.1 hy
  obtain ⟨i, hi, rfl⟩ := List.getElem_of_mem hv
  exact (each i hi).2
theorem entry_cells {H : Type} {enc : TypeId × Value → H} {W : World} {base fuel : Nat} {spare : Nat → Bool} {held : Bool} {cs : List Value} {x : DataW H × List MemPlace}
 (h : DataW.trod enc Tryz.prog W base spare held fuel 82 cs = some x) : ∃ y : En, cs = enL y ∧ OkE y := by
 have c1 : Tryz.prog.cellsOf 9 = 1 := by kernel_rfl
 have c32 : Tryz.prog.cellsOf 80 = 32 := by kernel_rfl
 have c33 : Tryz.prog.cellsOf 82 = 33 := by kernel_rfl
 obtain ⟨xs, m, _, _, hl, hx, hall⟩ := DataW.trod_struct Tryz.underlying82 h
 rw [c33] at hl
 have h0 := hall 0 _ rfl
 have h1 := hall 1 _ rfl
 have k : xs.length = 2 := hx
 rw [List.getElem?_eq_getElem (by omega)] at h0 h1
 have h0' : DataW.trod enc Tryz.prog W base spare held m 9 ((cs.drop 0).take 1) = some xs[0] := by rw [← c1]; exact h0
 have h1' : DataW.trod enc Tryz.prog W base spare held m 80 ((cs.drop 1).take 32) = some xs[1] := by rw [← c32]; exact h1
 obtain ⟨s, e0, _, _⟩ := DataW.trod_string Tryz.underlying9 h0'
 obtain ⟨L1, e1, k1⟩ := digest_cellsD h1'
 refine ⟨⟨s, L1⟩, ?_, k1⟩
 show cs = .string s :: L1.map (Value.int .u8)
 rw [← e1]
 have a1 : cs = cs.take 1 ++ cs.drop 1 := (List.take_append_drop 1 cs).symm
 have a3 : (cs.drop 1).take 32 = cs.drop 1 := List.take_of_length_le (by rw [List.length_drop]; omega)
 rw [a3]
 have e0' : cs.take 1 = [.string s] := by rw [List.drop_zero] at e0; exact e0
 rw [e0'] at a1
 exact a1
instance : Inhabited Cg := ⟨⟨ByteArray.empty, [], []⟩⟩
instance : Inhabited En := ⟨⟨ByteArray.empty, []⟩⟩
theorem ens_of_slice {H : Type} {enc : TypeId × Value → H} {W : World} {fuel : Nat} {held : Bool} {da : Option Addr} {n cap : Nat} {x : DataW H × List MemPlace}
 (h : DataW.trod enc Tryz.prog W 0 (fun _ => true) held fuel 29 (Value.slice da n cap).cells.toList = some x) : ∃ l, EnsIn W W.heap.size da n cap l := by
 have c33 : Tryz.prog.cellsOf 82 = 33 := by kernel_rfl
 rcases Go.Deep.open_slice Tryz.underlying29 h with ⟨hcs, _⟩ | ⟨a, len, cap', m, k, D, Pl, hcs, _, hl, hm, hmm, _, hr⟩
 ·simp [Value.cells] at hcs
  obtain ⟨rfl, rfl, rfl⟩ := hcs
  exact ⟨[], ⟨rfl, fun y hy => (by cases hy), fun h => absurd h (by omega)⟩⟩
 ·simp [Value.cells] at hcs
  obtain ⟨rfl, rfl, rfl⟩ := hcs
  simp only [if_true] at hmm
  subst hmm
  unfold maxLen at hm
  rw [c33] at hr
  have each : ∀ i, i < m → ∃ y : En, OkE y ∧ ∀ j, j < 33 → W.cell? ((a.add (i * 33)).add j) = (enL y)[j]? := by
   intro i hi
   obtain ⟨cs', h1, h2⟩ := hr i hi
   obtain ⟨y, rfl, hy⟩ := entry_cells h2
   obtain ⟨_, _, hc⟩ := World.cells?_some h1
   exact ⟨y, hy, fun j hj => hc j (by omega)⟩
  obtain ⟨f, hf⟩ := Go.Deep.choose_lt each
  refine ⟨(List.range n).map f, ⟨by simp, fun y hy => ?_, fun hn => ?_⟩⟩
  ·obtain ⟨i, hi, rfl⟩ := List.mem_map.1 hy
   exact (hf i (by have : i < n := by simpa using hi
                   omega)).1
  ·obtain ⟨b, off, spot⟩ := a
   have h0 := (hf 0 (by omega)).2 0 (by omega)
   have hspot : spot = none := by simpa [Addr.add] using World.cell?_spot (h0.trans (by rfl))
   subst hspot
   refine ⟨b, off, rfl, World.block_lt_of_cell? W _ (by simpa [Addr.add, enL] using h0), hl, fun i y hy j v hv => ?_⟩
   have hi : i < n := by have := (List.getElem?_eq_some_iff.1 hy).1; simpa using this
   have e : y = f i := by rw [List.getElem?_map, List.getElem?_range hi] at hy; exact (Option.some.inj hy).symm
   subst e
   have h1 := hf i (by omega)
   have hj : j < 33 := by have := (List.getElem?_eq_some_iff.1 hv).1; rw [enL_length h1.1] at this; exact this
   have h2 := h1.2 j hj
   rw [Addr.add_mid, Addr.add_mid] at h2
   rw [h2]; exact hv
theorem ints_of_slice {H : Type} {enc : TypeId × Value → H} {W : World} {fuel : Nat} {held : Bool} {da : Option Addr} {n cap : Nat} {x : DataW H × List MemPlace}
 (h : DataW.trod enc Tryz.prog W 0 (fun _ => true) held fuel 23 (Value.slice da n cap).cells.toList = some x) : ∃ l, IntsT W W.heap.size da n cap l := by
 have c1 : Tryz.prog.cellsOf 3 = 1 := by kernel_rfl
 rcases Go.Deep.open_slice Tryz.underlying23 h with ⟨hcs, _⟩ | ⟨a, len, cap', m, k, D, Pl, hcs, _, hl, hm, hmm, _, hr⟩
 ·simp [Value.cells] at hcs
  obtain ⟨rfl, rfl, rfl⟩ := hcs
  exact ⟨[], ⟨rfl, fun h => absurd h (by omega), by simp, by omega⟩⟩
 ·simp [Value.cells] at hcs
  obtain ⟨rfl, rfl, rfl⟩ := hcs
  simp only [if_true] at hmm
  subst hmm
  unfold maxLen at hm
  rw [c1] at hr
  have each : ∀ i, i < m → ∃ v : Int, (-9223372036854775808 ≤ v ∧ v ≤ 9223372036854775807) ∧ W.cell? (a.add (i * 1)) = some (.int .i64 v) := by
   intro i hi
   obtain ⟨cs', h1, h2⟩ := hr i hi
   obtain ⟨v, rfl, _, wn⟩ := DataW.trod_int Tryz.underlying3 h2
   obtain ⟨_, _, hc⟩ := World.cells?_some h1
   have h3 := hc 0 (by omega)
   have h4 : (a.add (i * 1)).add 0 = a.add (i * 1) := by
    cases a with
    | mk b o s => cases s <;> simp [Addr.add]
   rw [h4] at h3
   exact ⟨v, bounds_i64 wn, h3⟩
  obtain ⟨f, hf⟩ := Go.Deep.choose_lt each
  refine ⟨(List.range n).map f, ⟨by simp, fun hn => ?_, fun y hy => ?_, by omega⟩⟩
  ·obtain ⟨b, off, spot⟩ := a
   have h0 := (hf 0 (by omega)).2
   have hspot : spot = none := by simpa [Addr.add] using World.cell?_spot h0
   subst hspot
   refine ⟨b, off, rfl, World.block_lt_of_cell? W _ (by simpa [Addr.add] using h0), hl, fun i v hv => ?_⟩
   have hi : i < n := by have := (List.getElem?_eq_some_iff.1 hv).1; simpa using this
   have e : v = f i := by rw [List.getElem?_map, List.getElem?_range hi] at hv; exact (Option.some.inj hv).symm
   subst e
   have h2 := (hf i (by omega)).2
   rw [Addr.add_mid, Nat.mul_one] at h2
   exact h2
  ·obtain ⟨i, hi, rfl⟩ := List.mem_map.1 hy
   exact (hf i (by have : i < n := by simpa using hi
                   omega)).1
instance : Inhabited Vr := ⟨⟨ByteArray.empty, ByteArray.empty⟩⟩
theorem two_cells {l : List Value} {a b : Value} (hl : l.length = 2) (e0 : (l.drop 0).take 1 = [a]) (e1 : (l.drop 1).take 1 = [b]) : l = [a, b] := by
 match l, hl with
 | [x0, x1], _ => simp at e0 e1; rw [e0, e1]
theorem vr_cells {H : Type} {enc : TypeId × Value → H} {W : World} {fuel : Nat} {held : Bool} {cs : List Value} {x : DataW H × List MemPlace}
 (h : DataW.trod enc Tryz.prog W 0 (fun _ => true) held fuel 61 cs = some x) : ∃ y : Vr, cs = vrL y ∧ y.n.size ≤ maxLen ∧ y.v.size ≤ maxLen := by
 have c1 : Tryz.prog.cellsOf 9 = 1 := by kernel_rfl
 have c2 : Tryz.prog.cellsOf 61 = 2 := by kernel_rfl
 obtain ⟨xs, m, _, _, hl, hx, hall⟩ := DataW.trod_struct Tryz.underlying61 h
 rw [c2] at hl
 have h0 := hall 0 _ rfl
 have h1 := hall 1 _ rfl
 have k : xs.length = 2 := hx
 rw [List.getElem?_eq_getElem (by omega)] at h0 h1
 have h0' : DataW.trod enc Tryz.prog W 0 (fun _ => true) held m 9 ((cs.drop 0).take (Tryz.prog.cellsOf 9)) = some (xs[0]'(by omega)) := h0
 have h1' : DataW.trod enc Tryz.prog W 0 (fun _ => true) held m 9 ((cs.drop 1).take (Tryz.prog.cellsOf 9)) = some (xs[1]'(by omega)) := h1
 rw [c1] at h0' h1'
 obtain ⟨s, e0, _, z0⟩ := DataW.trod_string Tryz.underlying9 h0'
 obtain ⟨s', e1, _, z1⟩ := DataW.trod_string Tryz.underlying9 h1'
 exact ⟨⟨s, s'⟩, two_cells hl e0 e1, z0, z1⟩
theorem vrs_cells {H : Type} {enc : TypeId × Value → H} {W : World} {fuel : Nat} {held : Bool} {cs : List Value} {x : DataW H × List MemPlace}
 (h : DataW.trod enc Tryz.prog W 0 (fun _ => true) held fuel 28 cs = some x) : ∃ sp n cap l, cs = [.slice sp n cap] ∧ VrsIn W W.heap.size sp n cap l ∧ n ≤ maxLen ∧ ∀ y ∈ l, y.n.size ≤ maxLen ∧ y.v.size ≤ maxLen := by
 have c2 : Tryz.prog.cellsOf 61 = 2 := by kernel_rfl
 rcases Go.Deep.open_slice Tryz.underlying28 h with ⟨hcs, _⟩ | ⟨a, n, cap, m, k, D, Pl, hcs, _, hl, hm, hmm, _, hr⟩
 ·exact ⟨none, 0, 0, [], hcs, ⟨rfl, fun h => absurd h (by omega)⟩, by unfold maxLen; omega, fun y hy => by cases hy⟩
 ·simp only [if_true] at hmm
  subst hmm
  rw [c2] at hr
  have each : ∀ i, i < m → ∃ y : Vr, (y.n.size ≤ maxLen ∧ y.v.size ≤ maxLen) ∧ ∀ j, j < 2 → W.cell? ((a.add (i * 2)).add j) = (vrL y)[j]? := by
   intro i hi
   obtain ⟨cs', h1, h2⟩ := hr i hi
   obtain ⟨y, rfl, hy⟩ := vr_cells h2
   obtain ⟨_, _, hc⟩ := World.cells?_some h1
   exact ⟨y, hy, fun j hj => hc j (by omega)⟩
  obtain ⟨f, hf⟩ := Go.Deep.choose_lt each
  refine ⟨some a, n, m, (List.range n).map f, hcs, ⟨by simp, fun hn => ?_⟩, by omega, fun y hy => ?_⟩
  ·obtain ⟨b, off, spot⟩ := a
   have h0 := (hf 0 (by omega)).2 0 (by omega)
   have hspot : spot = none := by simpa [Addr.add] using World.cell?_spot (h0.trans (by rfl))
   subst hspot
   refine ⟨b, off, rfl, World.block_lt_of_cell? W _ (by simpa [Addr.add, vrL] using h0), hl, fun i y hy j v hv => ?_⟩
   have hi : i < n := by have := (List.getElem?_eq_some_iff.1 hy).1; simpa using this
   have e : y = f i := by rw [List.getElem?_map, List.getElem?_range hi] at hy; exact (Option.some.inj hy).symm
   subst e
   have h1 := hf i (by omega)
   have hj : j < 2 := (List.getElem?_eq_some_iff.1 hv).1
   have h2 := h1.2 j hj
   rw [Addr.add_mid, Addr.add_mid] at h2
   rw [h2]; exact hv
  ·obtain ⟨i, hi, rfl⟩ := List.mem_map.1 hy
   exact (hf i (by have : i < n := by simpa using hi
                   omega)).1
theorem strs_cells {H : Type} {enc : TypeId × Value → H} {W : World} {fuel : Nat} {held : Bool} {cs : List Value} {x : DataW H × List MemPlace}
 (h : DataW.trod enc Tryz.prog W 0 (fun _ => true) held fuel 27 cs = some x) : ∃ sp n cap l, cs = [.slice sp n cap] ∧ StrsIn W W.heap.size sp n l ∧ n ≤ maxLen ∧ ∀ y ∈ l, y.size ≤ maxLen := by
 have c1 : Tryz.prog.cellsOf 9 = 1 := by kernel_rfl
 rcases open_strings Tryz.underlying27 Tryz.underlying9 c1 h with ⟨e, _⟩ | ⟨a, n, cap, ss, e, _, hl, hm, hss, _, hc, hw⟩
 ·exact ⟨none, 0, 0, [], e, ⟨rfl, fun h => absurd h (by omega)⟩, by unfold maxLen; omega, fun y hy => by cases hy⟩
 ·simp only [if_true] at hss
  have hlen : (ss.take n).length = n := by rw [List.length_take]; omega
  refine ⟨some a, n, cap, ss.take n, e, ⟨hlen, fun hn => ?_⟩, by omega, fun y hy => hw y (List.mem_of_mem_take hy)⟩
  obtain ⟨b, off, spot⟩ := a
  have h0 := hc 0 (by omega)
  have hspot : spot = none := by simpa [Addr.add] using World.cell?_spot h0
  subst hspot
  refine ⟨b, off, rfl, World.block_lt_of_cell? W _ (by simpa [Addr.add] using h0), fun i hi => ?_⟩
  rw [hlen] at hi
  have h1 := hc i (by omega)
  rw [Addr.add_mid] at h1
  rw [h1]
  rw [List.getElem_take, List.getD_eq_getElem?_getD, List.getElem?_eq_getElem (by omega)]; rfl
theorem ens_cells {H : Type} {enc : TypeId × Value → H} {W : World} {fuel : Nat} {held : Bool} {cs : List Value} {x : DataW H × List MemPlace}
 (h : DataW.trod enc Tryz.prog W 0 (fun _ => true) held fuel 29 cs = some x) : ∃ sp n cap l, cs = [.slice sp n cap] ∧ EnsIn W W.heap.size sp n cap l ∧ n ≤ maxLen := by
 rcases Go.Deep.open_slice Tryz.underlying29 h with ⟨hcs, _⟩ | ⟨a, len, cap', m, k, D, Pl, hcs, _, hl, hm, _⟩
 ·subst hcs
  obtain ⟨l, h1⟩ := ens_of_slice (da := none) (n := 0) (cap := 0) h
  exact ⟨none, 0, 0, l, rfl, h1, by unfold maxLen; omega⟩
 ·subst hcs
  obtain ⟨l, h1⟩ := ens_of_slice (da := some a) (n := len) (cap := cap') h
  exact ⟨some a, len, cap', l, rfl, h1, by omega⟩
theorem eight_cells {l : List Value} {a b c d e f g k : Value} (hl : l.length = 8) (e0 : (l.drop 0).take 1 = [a]) (e1 : (l.drop 1).take 1 = [b]) (e2 : (l.drop 2).take 1 = [c]) (e3 : (l.drop 3).take 1 = [d]) (e4 : (l.drop 4).take 1 = [e]) (e5 : (l.drop 5).take 1 = [f]) (e6 : (l.drop 6).take 1 = [g]) (e7 : (l.drop 7).take 1 = [k]) : l = [a, b, c, d, e, f, g, k] := by
 match l, hl with
 | [x0, x1, x2, x3, x4, x5, x6, x7], _ => simp at e0 e1 e2 e3 e4 e5 e6 e7; rw [e0, e1, e2, e3, e4, e5, e6, e7]
theorem okWide_rc {w : World} {r : Reach} {base : Nat} {v : Value} (h : Value.okWide Tryz.prog w r base 31 v) : ∃ cs, v = .agg cs := by
 simp only [Value.okWide, Tryz.underlying31] at h
 obtain ⟨cs, h1, _⟩ := h
 exact ⟨cs, h1⟩
theorem rcArg_of {H : Type} {enc : TypeId × Value → H} {W : World} {fuel : Nat} {held : Bool} {cs : Array Value} {x : DataW H × List MemPlace}
 (h : DataW.trod enc Tryz.prog W 0 (fun _ => true) held fuel 31 (Value.agg cs).cells.toList = some x) : ∃ y : Rc, cs = y.L.toArray ∧ RcAt y W := by
 have c1 : Tryz.prog.cellsOf 9 = 1 := by kernel_rfl
 have c2 : Tryz.prog.cellsOf 2 = 1 := by kernel_rfl
 have c3 : Tryz.prog.cellsOf 27 = 1 := by kernel_rfl
 have c4 : Tryz.prog.cellsOf 28 = 1 := by kernel_rfl
 have c5 : Tryz.prog.cellsOf 29 = 1 := by kernel_rfl
 have c8 : Tryz.prog.cellsOf 31 = 8 := by kernel_rfl
 generalize hl0 : (Value.agg cs).cells.toList = l at h
 obtain ⟨xs, m, _, hxx, hl, hx, hall⟩ := DataW.trod_struct Tryz.underlying31 h
 rw [c8] at hl
 have h0 := hall 0 _ rfl
 have h1 := hall 1 _ rfl
 have h2 := hall 2 _ rfl
 have h3 := hall 3 _ rfl
 have h4 := hall 4 _ rfl
 have h5 := hall 5 _ rfl
 have h6 := hall 6 _ rfl
 have h7 := hall 7 _ rfl
 have k : xs.length = 8 := hx
 rw [List.getElem?_eq_getElem (by omega)] at h0 h1 h2 h3 h4 h5 h6 h7
 have g0 : DataW.trod enc Tryz.prog W 0 (fun _ => true) held m 9 ((l.drop 0).take (Tryz.prog.cellsOf 9)) = some (xs[0]'(by omega)) := h0
 rw [c1] at g0
 have g1 : DataW.trod enc Tryz.prog W 0 (fun _ => true) held m 9 ((l.drop 1).take (Tryz.prog.cellsOf 9)) = some (xs[1]'(by omega)) := h1
 rw [c1] at g1
 have g2 : DataW.trod enc Tryz.prog W 0 (fun _ => true) held m 9 ((l.drop 2).take (Tryz.prog.cellsOf 9)) = some (xs[2]'(by omega)) := h2
 rw [c1] at g2
 have g3 : DataW.trod enc Tryz.prog W 0 (fun _ => true) held m 2 ((l.drop 3).take (Tryz.prog.cellsOf 2)) = some (xs[3]'(by omega)) := h3
 rw [c2] at g3
 have g4 : DataW.trod enc Tryz.prog W 0 (fun _ => true) held m 27 ((l.drop 4).take (Tryz.prog.cellsOf 27)) = some (xs[4]'(by omega)) := h4
 rw [c3] at g4
 have g5 : DataW.trod enc Tryz.prog W 0 (fun _ => true) held m 28 ((l.drop 5).take (Tryz.prog.cellsOf 28)) = some (xs[5]'(by omega)) := h5
 rw [c4] at g5
 have g6 : DataW.trod enc Tryz.prog W 0 (fun _ => true) held m 29 ((l.drop 6).take (Tryz.prog.cellsOf 29)) = some (xs[6]'(by omega)) := h6
 rw [c5] at g6
 have g7 : DataW.trod enc Tryz.prog W 0 (fun _ => true) held m 29 ((l.drop 7).take (Tryz.prog.cellsOf 29)) = some (xs[7]'(by omega)) := h7
 rw [c5] at g7
 obtain ⟨s0, e0, _, z0⟩ := DataW.trod_string Tryz.underlying9 g0
 obtain ⟨s1, e1, _, z1⟩ := DataW.trod_string Tryz.underlying9 g1
 obtain ⟨s2, e2, _, z2⟩ := DataW.trod_string Tryz.underlying9 g2
 obtain ⟨t, e3, _, z3⟩ := DataW.trod_int Tryz.underlying2 g3
 obtain ⟨q1, qn, qc, q, e4, hq, hqn, hqs⟩ := strs_cells g4
 obtain ⟨v1, vn, vc, v, e5, hv, hvn, hvs⟩ := vrs_cells g5
 obtain ⟨m1, mn, mc, ml, e6, hm, hmn⟩ := ens_cells g6
 obtain ⟨p1, pn, pc, pl, e7, hp, hpn⟩ := ens_cells g7
 have e := eight_cells hl e0 e1 e2 e3 e4 e5 e6 e7
 refine ⟨⟨s0, s1, s2, t, q1, qn, qc, q, v1, vn, vc, v, m1, mn, mc, ml, p1, pn, pc, pl⟩, ?_, hq, hv, hm, hp, ⟨z0, z1, z2, hqn, hvn, hmn, hpn⟩, ⟨hqs, hvs⟩, bounds_i64 z3⟩
 unfold Rc.L
 rw [← e, ← hl0]; simp [Value.cells]
end Go.Proofs.YtecllfbadciaoaaGreatDoor
