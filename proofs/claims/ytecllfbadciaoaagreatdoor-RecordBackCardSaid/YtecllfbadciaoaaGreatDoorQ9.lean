/-
  The walk of document.Encode: the encoded form of a document, and its errors (condition: the lines read as lists of words).
-/
import Derived.Test.YtecllfbadciaoaaGreatDoorZip
import Derived.Test.YtecllfbadciaoaaGreatDoorQ8
import Derived.Laws.OwnMore
import Derived.WalkMore
import Derived.Lib.ItoaMem
import Derived.Shelf.Strconv.Itoa4
import Derived.Lib.AppendIntMem
set_option maxRecDepth 100000
set_option maxHeartbeats 8000000
namespace Go.Proofs.YtecllfbadciaoaaGreatDoor
open Go.RowKit
def EncRes (w : World) (ls : List (List ByteArray)) (e : Ending) (w' : World) : Prop :=
 ∃ v, e = .returned (.tuple #[v, .int .i64 ((enc ls).1 : Nat)]) ∧ Hid (w'.ownsRow w.heap.size 5 1 v (enc ls).2.length (Lib.byteCells (enc ls).2)) ∧ Below w.heap.size w w'
theorem own_shape {w : World} {base e size : Nat} {v : Value} {n : Nat} {xs : List Value} (h : w.ownsRow base e size v n xs) : ∃ sp cap, v = .slice sp n cap := by
 obtain ⟨_, ⟨rfl, rfl⟩ | ⟨g, cap, cur, rfl, _⟩⟩ := h
 ·exact ⟨none, 0, rfl⟩
 ·exact ⟨_, cap, rfl⟩
theorem wordsOf_get? (ls : List Ln) : ∀ (k : Nat) (hk : k < ls.length), (wordsOf ls)[k]? = some ls[k].l := fun k hk => by simp [wordsOf, List.getElem?_eq_getElem hk]
theorem encL_next {wl : List (List ByteArray)} {k : Nat} {l : List ByteArray} (h : wl[k]? = some l) : encL (wl.take (k + 1)) = encL (wl.take k) ++ lineL l := by
 obtain ⟨hk, rfl⟩ := List.getElem?_eq_some_iff.1 h
 exact encL_succ wl k hk
theorem chk_ok {wl : List (List ByteArray)} (h : chk wl = 0) : wl.length ≤ 1000 ∧ ∀ l ∈ wl, chkLine l = 0 := by
 unfold chk at h
 by_cases h1 : 1000 < wl.length
 ·rw [if_pos h1] at h; cases h
 ·rw [if_neg h1] at h; exact ⟨by omega, firstBad_all h⟩
theorem chk_line {wl : List (List ByteArray)} {k : Nat} {l : List ByteArray} (h : chk wl = 0) (hk : wl[k]? = some l) : 0 < l.length ∧ l.length ≤ 120 ∧ ∀ s ∈ l, s.size ≤ 32768 :=
 chkLine_ok ((chk_ok h).2 l (List.mem_of_getElem? hk))
theorem enc_bad {ls : List (List ByteArray)} (h : chk ls ≠ 0) : enc ls = (chk ls, []) := by unfold enc; rw [if_neg h]
theorem enc_much {ls : List (List ByteArray)} (h : chk ls = 0) (h2 : 262144 < (encL ls).length) : enc ls = (3, []) := by unfold enc; rw [if_pos h, if_pos h2]
theorem enc_good {ls : List (List ByteArray)} (h : chk ls = 0) (h2 : ¬ 262144 < (encL ls).length) : enc ls = (0, encL ls) := by unfold enc; rw [if_pos h, if_neg h2]
theorem Encode_any (pa : Option Addr) (np ncap : Nat) (ls : List Ln) (w : World) (hp : LinesIn w w.heap.size pa np ls) (hmax : np ≤ 9223372036854775807) (hmax2 : ∀ q ∈ ls, q.n ≤ 9223372036854775807) :
 Calls Tryz.prog 41 #[.slice pa np ncap] w (EncRes w (wordsOf ls)) := by
 have HCK := zh (checkLines_any pa np ncap ls w hp hmax hmax2)
 have HP := zh hp; have HM := zh hmax2; clear hp hmax2
 obtain ⟨i0, hi0, hz0, hz1, hz2⟩ := info_parts Tryz.info5
 have HI0 := zh hi0; have HZ0 := zh hz0; have HZ1 := zh hz1; have HZ2 := zh hz2
 clear hi0 hz0 hz1 hz2
 by_cases hc : chk (wordsOf ls) = 0
 ·have HE1 := zh (enc_much hc)
  have HE2 := zh (enc_good hc)
  rw [hc] at HCK
  have HC := zh hc; clear hc
  have HLEN := zh HP.out.len
  have HL2 := zh (wordsOf_length ls)
  have HGET := zh (wordsOf_get? ls)
  generalize hwl : wordsOf ls = wl at *
  clear hwl
  go_enter Tryz.func41, Tryz.ntmps41
  go_wp2_with fail
  go_step3
  go_wp2_with (go_at_call 61; refine HCK.out.mono ?_; rintro e w' ⟨rfl, rfl⟩)
  go_step3
  go_wp2_with fail
  go_loopg [5, 17] np (fun g b i wx => ∃ k : Nat, k + g = np ∧ i = .int .i64 k ∧ ∃ sp cap, b = .slice sp (encL (wl.take k)).length cap ∧ Hid (wx.ownsRow w.heap.size 5 1 (.slice sp (encL (wl.take k)).length cap) (encL (wl.take k)).length (Lib.byteCells (encL (wl.take k)))) ∧ (encL (wl.take k)).length ≤ 262144 ∧ Below w.heap.size w wx)
  case atStart => exact ⟨0, by omega, rfl, none, 0, by simp [encL], by show World.ownsRow _ _ _ _ _ _ _; simp [encL]; exact World.ownsRow_nil _ _ _ _, by simp [encL], Below.refl _ _⟩
  case round =>
   obtain ⟨k, hg, rfl, sp, cap, rfl, hown, hle, hbe⟩ := hrel
   by_cases hlt : k < np
   ·have hk2 : k < ls.length := by have := HLEN.out; omega
    obtain ⟨pb, po, rfl, hpb, hcell⟩ := HP.out.cells (by omega)
    have ck : wr.cell? ⟨pb, po + k, none⟩ = some (.slice ls[k].sp ls[k].n ls[k].cap) := (hbe.cell (p := ⟨pb, po + k, none⟩) hpb).trans (hcell k hk2)
    have HE := zh (HP.out.each _ (List.getElem_mem hk2))
    have HLK := zh (HGET.out k hk2)
    have hmx := HM.out _ (List.getElem_mem hk2)
    clear hcell
    generalize ls[k].sp = lsp at *
    generalize ls[k].n = n at *
    generalize ls[k].cap = lcap at *
    generalize ls[k].l = l at *
    obtain ⟨hpos, h120, hsz⟩ := chk_line HC.out HLK.out
    have HSZ := zh hsz; clear hsz
    obtain rfl := HE.out.len
    have HNX := zh (encL_next HLK.out)
    have HMO := zh (encL_mono wl (k + 1))
    generalize encL (wl.take k) = X at *
    go_wp2_with fail
    go_loopg [5, 23] l.length (fun g b i wy => ∃ j : Nat, j + g = l.length ∧ i = .int .i64 j ∧ ∃ sp cap, b = .slice sp (X ++ body (l.take j)).length cap ∧ Hid (wy.ownsRow w.heap.size 5 1 (.slice sp (X ++ body (l.take j)).length cap) (X ++ body (l.take j)).length (Lib.byteCells (X ++ body (l.take j)))) ∧ (X ++ body (l.take j)).length ≤ 262144 ∧ Below w.heap.size w wy)
    case atStart => exact ⟨0, by omega, rfl, sp, cap, by simp [body], by show World.ownsRow _ _ _ _ _ _ _; simpa [body] using hown.out, by simpa [body] using hle, hbe⟩
    case round =>
     clear hown hbe ck
     obtain ⟨j, hg2, rfl, sp2, cap2, rfl, hown, hle2, hbe⟩ := hrel
     have hbs := hbe.size
     by_cases hj : j < l.length
     ·obtain ⟨sb, so, rfl, hsb, hsc⟩ := HE.out.cells (by omega)
      have cw : wr.cell? ⟨sb, so + j, none⟩ = some (.string l[j]) := (hbe.cell (p := ⟨sb, so + j, none⟩) hsb).trans (hsc j hj)
      have hs1 : l[j].size ≤ 32768 := HSZ.out _ (List.getElem_mem hj)
      have HB := zh (body_succ l j hj)
      have HBM := zh (body_mono l (j + 1))
      clear hsc
      generalize l[j] = s at *
      have hw1 := wordL_le s.data.toList
      rw [← Lib.size_eq] at hw1
      have HA : Hid (X ++ body (l.take (j + 1)) = (X ++ body (l.take j)) ++ (wordL s.data.toList ++ [32])) := by show _ = _; rw [HB.out, List.append_assoc]
      generalize X ++ body (l.take j) = Y at *
      by_cases hbig : 262144 < (Y ++ (wordL s.data.toList ++ [32])).length
      ·simp only [List.length_append, List.length_cons, List.length_nil] at hbig
       go_wp2_with fail
       refine (appendWord_any w.heap.size _ Y s wr hown.out hbs (by omega)).mono ?_
       rintro e w2 ⟨v2, rfl, hown2, hbe2⟩
       have hs2 := hbe2.size
       have hzb : (262144 : Int) ≤ (((Y ++ wordL s.data.toList).length : Nat) : Int) := by rw [List.length_append]; omega
       have hzc : (((Y ++ wordL s.data.toList).length : Nat) : Int) ≤ 1048576 := by rw [List.length_append]; omega
       have HZ : Hid (Y ++ (wordL s.data.toList ++ [32]) = (Y ++ wordL s.data.toList) ++ [32]) := by show _ = _; rw [List.append_assoc]
       generalize Y ++ wordL s.data.toList = Z at *
       clear hbig hw1 hle2
       go_upto_region 12 with (at_builtin; refine wpList_append_own _ rfl (.tmp 29) (.tmp 30) 22 rfl w.heap.size 5 i0 (.int .u8 0) 1 1 Tryz.underlying22 HI0.out HZ0.out HZ1.out HZ2.out rfl (by decide) _ _ _ rfl (hown2.out.alloc _) ⟨w2.heap.size, 0, none⟩ 1 1 [.int .u8 32] rfl rfl (cell_one_new _ _ _) (by intro u hu; simp at hu; subst hu; rfl) (by unfold maxLen; omega) (by omega) (by simp; omega) ?_; intro v3 w3 hown3 hg3 _; obtain ⟨sp3, cap3, rfl⟩ := own_shape hown3; have HO3 := zh hown3; clear hown3)
       have hd1 : decide ((Z.length : Int) + 1 > 262144) = true := decide_eq_true (by omega)
       have hd2 : decide (262144 < (Z.length : Int) + 1) = true := decide_eq_true (by omega)
       have hd3 : decide (262144 ≤ (Z.length : Int)) = true := decide_eq_true (by omega)
       go_wp2
       rw [Exit.noGoto_ret]
       go_ret2
       have hfin : enc wl = (3, []) := by
        refine HE1.out ?_
        have h1 := HMO.out
        rw [HNX.out, List.length_append, lineL_length hpos] at h1
        have h2 := congrArg List.length HA.out
        rw [HZ.out] at h2
        simp only [List.length_append, List.length_cons, List.length_nil] at h2
        have h3 := HBM.out
        omega
       exact ⟨.slice none 0 0, by rw [hfin]; rfl, by rw [hfin]; exact World.ownsRow_nil _ _ _ _, (hbe.trans hbe2).alloc (by omega) _ |>.grown hg3 (by simp; omega) (own_base hown2.out)⟩
      ·simp only [List.length_append, List.length_cons, List.length_nil] at hbig
       go_wp2_with fail
       refine (appendWord_any w.heap.size _ Y s wr hown.out hbs (by omega)).mono ?_
       rintro e w2 ⟨v2, rfl, hown2, hbe2⟩
       have hs2 := hbe2.size
       have hzb : (((Y ++ wordL s.data.toList).length : Nat) : Int) ≤ 262143 := by rw [List.length_append]; omega
       have HZ : Hid (Y ++ (wordL s.data.toList ++ [32]) = (Y ++ wordL s.data.toList) ++ [32]) := by show _ = _; rw [List.append_assoc]
       generalize Y ++ wordL s.data.toList = Z at *
       clear hbig hw1 hle2
       go_upto_region 12 with (at_builtin; refine wpList_append_own _ rfl (.tmp 29) (.tmp 30) 22 rfl w.heap.size 5 i0 (.int .u8 0) 1 1 Tryz.underlying22 HI0.out HZ0.out HZ1.out HZ2.out rfl (by decide) _ _ _ rfl (hown2.out.alloc _) ⟨w2.heap.size, 0, none⟩ 1 1 [.int .u8 32] rfl rfl (cell_one_new _ _ _) (by intro u hu; simp at hu; subst hu; rfl) (by unfold maxLen; omega) (by omega) (by simp; omega) ?_; intro v3 w3 hown3 hg3 _; obtain ⟨sp3, cap3, rfl⟩ := own_shape hown3; have HO3 := zh hown3; clear hown3)
       have hd1 : decide ((Z.length : Int) + 1 > 262144) = false := decide_eq_false (by omega)
       have hd2 : decide (262144 < (Z.length : Int) + 1) = false := decide_eq_false (by omega)
       have hd3 : decide (262144 ≤ (Z.length : Int)) = false := decide_eq_false (by omega)
       go_wp2
       go_roundg (l.length - (j + 1))
       case measure => omega
       case rel =>
        refine ⟨j + 1, by omega, by go_num, sp3, cap3, ?_, ?_, ?_, ?_⟩
        ·rw [HA.out, HZ.out]; simp
        ·rw [HA.out, HZ.out]
         have := HO3.out
         show World.ownsRow _ _ _ _ _ _ _
         simpa [Lib.byteCells_append, Lib.byteCells, Nat.add_assoc] using this
        ·rw [HA.out, HZ.out]; simp only [List.length_append, List.length_cons, List.length_nil]; omega
        ·exact (hbe.trans hbe2).alloc (by omega) _ |>.grown hg3 (by simp; omega) (own_base hown2.out)
     ·obtain rfl : j = l.length := by omega
      rw [List.take_of_length_le (Nat.le_refl _)] at hown hle2
      rw [List.take_of_length_le (Nat.le_refl _)]
      have hbp := body_pos hpos
      have hll := lineL_length hpos
      have HSL := zh (set_last (xs := X) hbp 10)
      have HLL : Hid (lineL l = (body l).dropLast ++ [10]) := rfl
      have hyl : (X ++ body l).length = X.length + (body l).length := List.length_append
      obtain ⟨m, hm⟩ : ∃ m, (X ++ body l).length = m + 1 := ⟨X.length + (body l).length - 1, by omega⟩
      have HLN : Hid ((X ++ lineL l).length = m + 1) := by show _ = _; rw [List.length_append, hll]; omega
      have HM1 : Hid (X.length + (body l).length - 1 = m) := by show _ = _; omega
      rw [hm] at hown hle2
      rw [hm]
      generalize X ++ body l = Y at *
      rcases cells_of_own (l := Y) (by rw [hm]; exact hown.out) with ⟨_, hnil⟩ | ⟨g, capg, hv, hgB, _, hcg⟩
      ·rw [hnil] at hm; simp at hm
      ·have hsp : sp2 = some ⟨g, 0, none⟩ := by injection hv
       subst hsp
       obtain ⟨ym, hcm⟩ : ∃ z : Int, wr.cell? ⟨g, m, none⟩ = some (.int .u8 z) := ⟨_, hcg m (by omega)⟩
       have hfm := hown.out.frozenAt m
       have HST := zh (hown.out.stored m (.int .u8 10))
       clear hv hcg hm hyl hll hbp
       go_wp2
       go_roundg (np - (k + 1))
       case measure => omega
       case rel =>
        refine ⟨k + 1, by omega, by go_num, some ⟨g, 0, none⟩, cap2, ?_, ?_, ?_, ?_⟩
        ·rw [HNX.out, HLN.out]
        ·rw [HNX.out, HLN.out]
         have e : (Lib.byteCells Y).set m (.int .u8 10) = Lib.byteCells (X ++ lineL l) := by
          rw [HLL.out, ← HSL.out, HM1.out]; simp [Lib.byteCells]
         have := HST.out.1
         rw [e] at this
         exact this
        ·rw [HNX.out, HLN.out]; exact hle2
        ·exact hbe.setCell hgB _
   ·obtain rfl : k = np := by omega
    have hall : encL (wl.take k) = encL wl := by rw [List.take_of_length_le (by rw [HL2.out, HLEN.out]; exact Nat.le_refl _)]
    rw [hall] at hown hle
    rw [hall]
    have HE := zh (HE2.out (by omega))
    clear hall
    generalize encL wl = X at *
    have hd1 : decide ((X.length : Int) > 262144) = false := decide_eq_false (by omega)
    have hd2 : decide (262144 < (X.length : Int)) = false := decide_eq_false (by omega)
    go_wp2_with fail
    rw [Exit.noGoto_ret]
    go_ret2
    exact ⟨_, by rw [HE.out]; rfl, by rw [HE.out]; exact hown, hbe⟩
 ·have HE := zh (enc_bad hc)
  have hc2 : (((chk (wordsOf ls) : Nat) : Int) != 0) = true := by rw [bne_iff_ne]; omega
  generalize wordsOf ls = wl at *
  generalize chk wl = r at *
  have HC := zh hc; clear hc
  go_enter Tryz.func41, Tryz.ntmps41
  go_wp2_with (go_at_call 61; refine HCK.out.mono ?_; rintro e w' ⟨rfl, rfl⟩)
  go_step3
  go_wp2_with (go_at_call 61; refine HCK.out.mono ?_; rintro e w' ⟨rfl, rfl⟩)
  rw [Exit.noGoto_ret]
  go_ret2
  exact ⟨.slice none 0 0, by rw [HE.out]; rfl, by rw [HE.out]; exact World.ownsRow_nil _ _ _ _, Below.refl _ _⟩
end Go.Proofs.YtecllfbadciaoaaGreatDoor
namespace Go.Proofs.YtecllfbadciaoaaGreatDoor
open Go
def isD (c : UInt8) : Bool := decide (48 ≤ c.toNat) && decide (c.toNat ≤ 57)
def valF (a : Nat) (l : List UInt8) : Nat := l.foldl (fun a c => 10 * a + (c.toNat - 48)) a
def valL (l : List UInt8) : Nat := valF 0 l
def lz (l : List UInt8) : Bool := decide (l.head? = some 48) && decide (1 < l.length)
def pnk (l : List UInt8) : Bool := !decide (l = []) && !lz l && l.all isD && decide (valL l ≤ 1099511627776)
def pnv (l : List UInt8) : Int := if pnk l = true then (valL l : Int) else 0
theorem valL_snoc (l : List UInt8) (c : UInt8) : valL (l ++ [c]) = 10 * valL l + (c.toNat - 48) := by unfold valL valF; rw [List.foldl_append]; rfl
theorem valF_ge (l : List UInt8) : ∀ a, a * 10 ^ l.length ≤ valF a l := by
 induction l with
 | nil => intro a; simp [valF]
 | cons c r ih =>
   intro a
   have h := ih (10 * a + (c.toNat - 48))
   show a * 10 ^ (r.length + 1) ≤ valF (10 * a + (c.toNat - 48)) r
   refine Nat.le_trans ?_ h
   rw [Nat.pow_succ, Nat.mul_comm (10 ^ r.length) 10, ← Nat.mul_assoc]
   exact Nat.mul_le_mul_right _ (by omega)
theorem valL_mono (l m : List UInt8) : valL l ≤ valL (l ++ m) := by
 unfold valL
 have : valF 0 (l ++ m) = valF (valF 0 l) m := by unfold valF; rw [List.foldl_append]
 rw [this]
 exact Nat.le_trans (Nat.le_mul_of_pos_right _ (Nat.pow_pos (by omega))) (valF_ge m _)
theorem valL_big {l : List UInt8} (h : l.all isD = true) (h0 : l ≠ []) (hz : l.head? ≠ some 48) : 10 ^ (l.length - 1) ≤ valL l := by
 cases l with
 | nil => exact absurd rfl h0
 | cons c r =>
   have hc : c ≠ 48 := fun e => hz (by rw [e]; rfl)
   have hd : isD c = true := by rw [List.all_cons, Bool.and_eq_true] at h; exact h.1
   unfold isD at hd
   simp only [Bool.and_eq_true, decide_eq_true_eq] at hd
   have hc2 : c.toNat ≠ 48 := fun e => hc (UInt8.toNat_inj.1 e)
   have h1 := valF_ge r (10 * 0 + (c.toNat - 48))
   show 10 ^ (r.length + 1 - 1) ≤ valF (10 * 0 + (c.toNat - 48)) r
   refine Nat.le_trans ?_ h1
   rw [Nat.add_sub_cancel]
   exact Nat.le_mul_of_pos_left _ (by omega)
theorem dec_step (u : Nat) (h : ¬ u < 10) : Lib.decDigits u = Lib.decDigits (u / 10) ++ [UInt8.ofNat (48 + u % 10)] := by rw [Lib.decDigits, dif_neg h]
theorem ofNat_toNat8 (k : Nat) (h : k < 256) : (UInt8.ofNat k).toNat = k := by simp; omega
theorem isD_of (k : Nat) (h : k < 10) : isD (UInt8.ofNat (48 + k)) = true := by
 unfold isD; rw [ofNat_toNat8 _ (by omega), decide_eq_true (by omega), decide_eq_true (by omega)]; rfl
theorem dec_spec (u : Nat) : (Lib.decDigits u).all isD = true ∧ valL (Lib.decDigits u) = u ∧ Lib.decDigits u ≠ [] ∧ (u ≠ 0 → (Lib.decDigits u).head? ≠ some 48) := by
 induction u using Nat.strongRecOn with
 | _ u ih =>
   by_cases h : u < 10
   ·rw [Lib.decDigits_one h]
    refine ⟨by rw [List.all_cons, isD_of u h]; rfl, ?_, by simp, fun hu => ?_⟩
    ·show 10 * 0 + ((UInt8.ofNat (48 + u)).toNat - 48) = u
     rw [ofNat_toNat8 _ (by omega)]; omega
    ·intro e
     have e2 : UInt8.ofNat (48 + u) = 48 := by simpa using e
     have := congrArg UInt8.toNat e2
     rw [ofNat_toNat8 _ (by omega)] at this
     have e48 : (48 : UInt8).toNat = 48 := rfl
     omega
   ·obtain ⟨h1, h2, h3, h4⟩ := ih (u / 10) (by omega)
    rw [dec_step u h]
    refine ⟨by rw [List.all_append, h1, List.all_cons, isD_of _ (by omega)]; rfl, ?_, by simp, fun _ => ?_⟩
    ·rw [valL_snoc, h2, ofNat_toNat8 _ (by omega)]; omega
    ·have := h4 (by omega)
     cases hd : Lib.decDigits (u / 10) with
     | nil => exact absurd hd h3
     | cons c r => rw [hd] at this; simpa using this
theorem dec_val (n : Nat) : ∀ l : List UInt8, l.length = n → l.all isD = true → l ≠ [] → lz l = false → Lib.decDigits (valL l) = l := by
 induction n with
 | zero => intro l hl _ h0; exact absurd (List.eq_nil_of_length_eq_zero hl) h0
 | succ n ih =>
   intro l hl hd h0 hz
   obtain ⟨r, c, rfl⟩ : ∃ r c, l = r ++ [c] := ⟨l.dropLast, l.getLast h0, (List.dropLast_concat_getLast h0).symm⟩
   rw [List.all_append, Bool.and_eq_true] at hd
   have hc := hd.2
   rw [List.all_cons, List.all_nil, Bool.and_true] at hc
   unfold isD at hc
   simp only [Bool.and_eq_true, decide_eq_true_eq] at hc
   have ec : UInt8.ofNat (48 + (c.toNat - 48)) = c := by
    rw [show 48 + (c.toNat - 48) = c.toNat by omega]; simp
   by_cases hr : r = []
   ·subst hr
    have e : valL ([] ++ [c]) = c.toNat - 48 := by rw [valL_snoc]; show 10 * 0 + _ = _; omega
    rw [e, Lib.decDigits_one (by omega), ec]; rfl
   ·have hrl : r.length = n := by rw [List.length_append, List.length_singleton] at hl; omega
    have hn : 0 < r.length := by cases r with
     | nil => exact absurd rfl hr
     | cons _ _ => simp
    have hh : (r ++ [c]).head? = r.head? := by cases r with
     | nil => exact absurd rfl hr
     | cons _ _ => rfl
    have hz2 : r.head? ≠ some 48 := by
     intro e
     unfold lz at hz
     rw [hh, e, decide_eq_true rfl, decide_eq_true (by rw [List.length_append, List.length_singleton]; omega)] at hz
     cases hz
    have hzr : lz r = false := by unfold lz; rw [decide_eq_false hz2]; rfl
    have hv := ih r hrl hd.1 hr hzr
    have hb := valL_big hd.1 hr hz2
    have hp : 1 ≤ 10 ^ (r.length - 1) := Nat.pow_pos (by omega)
    rw [valL_snoc, dec_step _ (by omega), show (10 * valL r + (c.toNat - 48)) / 10 = valL r by omega, show (10 * valL r + (c.toNat - 48)) % 10 = c.toNat - 48 by omega, hv, ec]
theorem pnk_dec {l : List UInt8} (h : pnk l = true) : Lib.itoa (pnv l) = l ∧ l.all isD = true ∧ valL l ≤ 1099511627776 := by
 have h1 := h
 unfold pnk at h
 simp only [Bool.and_eq_true, Bool.not_eq_true', decide_eq_false_iff_not, decide_eq_true_eq] at h
 obtain ⟨⟨⟨h2, h3⟩, h4⟩, h5⟩ := h
 refine ⟨?_, h4, h5⟩
 unfold pnv
 rw [if_pos h1, Lib.itoa_nonneg, dec_val _ l rfl h4 h2 h3]
theorem pnk_itoa (n : Int) : pnk (Lib.itoa n) = (decide (0 ≤ n) && decide (n ≤ 1099511627776)) ∧ (0 ≤ n → n ≤ 1099511627776 → pnv (Lib.itoa n) = n) := by
 by_cases h0 : 0 ≤ n
 ·obtain ⟨u, rfl⟩ : ∃ u : Nat, n = u := ⟨n.toNat, by omega⟩
  rw [Lib.itoa_nonneg]
  obtain ⟨h1, h2, h3, h4⟩ := dec_spec u
  have hz : lz (Lib.decDigits u) = false := by
   by_cases hu : u = 0
   ·subst hu; rw [Lib.decDigits_one (by omega)]; rfl
   ·unfold lz; rw [decide_eq_false (h4 hu)]; rfl
  have hk : pnk (Lib.decDigits u) = decide ((u : Int) ≤ 1099511627776) := by
   unfold pnk
   rw [decide_eq_false h3, hz, h1, h2]
   simp only [Bool.not_false, Bool.true_and]
   rw [decide_eq_decide]; omega
  refine ⟨by rw [hk, decide_eq_true h0, Bool.true_and], fun _ hm => ?_⟩
  unfold pnv
  rw [hk, if_pos (by simpa using hm), h2]
 ·refine ⟨?_, fun h => absurd h h0⟩
  rw [decide_eq_false h0, Bool.false_and]
  have : Lib.itoa n = 45 :: Lib.decDigits n.natAbs := by unfold Lib.itoa; rw [if_pos (by omega)]
  unfold pnk
  rw [this, List.all_cons, show isD 45 = false from rfl]
  simp
end Go.Proofs.YtecllfbadciaoaaGreatDoor
namespace Go.Proofs.YtecllfbadciaoaaGreatDoor
open Go.RowKit
theorem digB_isD (c : UInt8) : digB (c.toNat : Int) = isD c := by
 unfold digB isD
 congr 1 <;> (rw [decide_eq_decide]; omega)
theorem getD_byteN (s : ByteArray) (i : Nat) (h : i < s.size) : s.data.toList[i]? = some s[i] := by
 rw [List.getElem?_eq_getElem (by simpa using h)]; rfl
theorem take_byteN (s : ByteArray) (k : Nat) (h : k < s.size) : s.data.toList.take (k + 1) = s.data.toList.take k ++ [s[k]] := by
 rw [List.take_succ_eq_append_getElem (by simpa using h)]; rfl
theorem pnk_no {l : List UInt8} (h : l = [] ∨ lz l = true ∨ l.all isD = false ∨ 1099511627776 < valL l) : pnk l = false ∧ pnv l = 0 := by
 have h1 : pnk l = false := by
  unfold pnk
  rcases h with h | h | h | h
  ·rw [decide_eq_true h]; rfl
  ·rw [h]; simp
  ·rw [h]; simp
  ·rw [decide_eq_false (p := valL l ≤ 1099511627776) (by omega)]; simp
 exact ⟨h1, by unfold pnv; rw [h1]; rfl⟩
theorem pnk_yes {l : List UInt8} (h0 : l ≠ []) (hz : lz l = false) (hd : l.all isD = true) (hm : valL l ≤ 1099511627776) : pnk l = true ∧ pnv l = (valL l : Int) := by
 have h1 : pnk l = true := by unfold pnk; rw [decide_eq_false h0, hz, hd, decide_eq_true hm]; rfl
 exact ⟨h1, by unfold pnv; rw [if_pos h1]⟩
theorem all_take_no {l : List UInt8} {k : Nat} {c : UInt8} (h : l[k]? = some c) (hc : isD c = false) : l.all isD = false := by
 rw [List.all_eq_false]
 exact ⟨c, List.mem_of_getElem? h, by rw [hc]; simp⟩
theorem valL_take_le (l : List UInt8) (k : Nat) : valL (l.take k) ≤ valL l := by
 have := valL_mono (l.take k) (l.drop k)
 rwa [List.take_append_drop] at this
theorem ParseNumber_any (s : ByteArray) (w : World) (hmax : s.size ≤ 9223372036854775807) :
 Calls Tryz.prog 103 #[.string s] w fun e w' => e = .returned (.tuple #[.int .i64 (pnv s.data.toList), .bool (pnk s.data.toList)]) ∧ w = w' := by
 by_cases he : s.size = 0
 ·have hl : s.data.toList = [] := List.eq_nil_of_length_eq_zero (by rw [← Lib.size_eq]; exact he)
  have HN := zh (pnk_no (l := s.data.toList) (.inl hl))
  have hl2 : s.toList = [] := by rw [Lib.toList_data]; exact hl
  clear hl he
  go_enter Tryz.func103, Tryz.ntmps103
  go_wp2_with fail
  go_ret2
  exact ⟨by rw [HN.out.1, HN.out.2]; rfl, rfl⟩
 have hne : s.data.toList ≠ [] := fun h => he (by rw [Lib.size_eq, h]; rfl)
 have hl : (s.toList == []) = false := by rw [Lib.toList_data, beq_eq_false_iff_ne]; exact hne
 have hl2 : ¬ s.toList = [] := by simpa using hl
 have h0 : 0 < s.size := by omega
 have p0 : (0 : Int) < (s.size : Int) := by omega
 have hh := getD_byteN s 0 h0
 have hhd : s.data.toList.head? = some s[0] := by rw [← hh, List.head?_eq_getElem?]
 have hcs : (((s[0].toNat : Int) == 48) = true ∧ (s.toList == [48]) = false ∧ lz s.data.toList = true) ∨ (((s[0].toNat : Int) == 48) = true ∧ (s.toList == [48]) = true ∧ lz s.data.toList = false) ∨ (((s[0].toNat : Int) == 48) = false ∧ lz s.data.toList = false) := by
  by_cases h : s[0] = 48
  ·have e1 : ((s[0].toNat : Int) == 48) = true := by rw [h]; rfl
   by_cases h2 : s.toList = [48]
   ·refine .inr (.inl ⟨e1, by rw [beq_iff_eq]; exact h2, ?_⟩)
    rw [Lib.toList_data] at h2; rw [h2]; rfl
   ·refine .inl ⟨e1, by rw [beq_eq_false_iff_ne]; exact h2, ?_⟩
    rw [Lib.toList_data] at h2
    unfold lz
    rw [hhd, h, decide_eq_true rfl, Bool.true_and, decide_eq_true_eq]
    rcases hd : s.data.toList with _ | ⟨a, _ | ⟨b, r⟩⟩
    ·exact absurd hd hne
    ·rw [hd] at hhd h2; simp at hhd; exact absurd (by rw [hhd, h]) h2
    ·simp
  ·refine .inr (.inr ⟨?_, ?_⟩)
   ·rw [beq_eq_false_iff_ne]; intro e; apply h; apply UInt8.toNat_inj.1; show s[0].toNat = 48; omega
   ·unfold lz; rw [hhd, decide_eq_false (fun e => h (by simpa using e))]; rfl
 have HH := zh hne
 clear hh hhd hne
 rcases hcs with ⟨t1, t2, hz⟩ | hcs
 ·have HN := zh (pnk_no (l := s.data.toList) (.inr (.inl hz)))
  have t3 : (!(s.toList == [48])) = true := by rw [t2]; rfl
  clear hz
  go_enter Tryz.func103, Tryz.ntmps103
  go_wp2_with fail
  go_ret2
  exact ⟨by rw [HN.out.1, HN.out.2]; rfl, rfl⟩
 ·have hz : lz s.data.toList = false := by rcases hcs with ⟨_, _, h⟩ | ⟨_, h⟩ <;> exact h
  have HZ := zh hz
  have hcs : (((s[0].toNat : Int) == 48) = true ∧ (!(s.toList == [48])) = false) ∨ ((s[0].toNat : Int) == 48) = false := by
   rcases hcs with ⟨h1, h2, _⟩ | ⟨h1, _⟩
   ·exact .inl ⟨h1, by rw [h2]; rfl⟩
   ·exact .inr h1
  have HPN : Hid (∀ h : s.data.toList.all isD = false ∨ 1099511627776 < valL s.data.toList, pnk s.data.toList = false ∧ pnv s.data.toList = 0) := fun h => pnk_no (.inr (.inr h))
  have HPY : Hid (∀ (h1 : s.data.toList.all isD = true) (h2 : valL s.data.toList ≤ 1099511627776), pnk s.data.toList = true ∧ pnv s.data.toList = (valL s.data.toList : Int)) := fun h1 h2 => pnk_yes HH.out HZ.out h1 h2
  have HLS := zh (Lib.size_eq s)
  clear hz
  rcases hcs with ⟨t1, t3⟩ | t1
  all_goals
   go_enter Tryz.func103, Tryz.ntmps103
   go_wp2_with fail
   go_loopw [4, 19] (fun v i wr => ∃ (k V : Nat), k ≤ s.size ∧ i = .int .i64 k ∧ v = .int .i64 V ∧ V ≤ 1099511627776 ∧ Hid (V = valL (s.data.toList.take k)) ∧ Hid ((s.data.toList.take k).all isD = true) ∧ Hid (wr = w)) (fun _ i _ => s.size - (intOf i).toNat)
   case atStart => exact ⟨0, 0, Nat.zero_le _, rfl, rfl, by omega, rfl, rfl, rfl⟩
   case round =>
    obtain ⟨k, V, hk, rfl, rfl, hV, HV, HA, hw⟩ := hrel
    obtain rfl := hw.out
    clear hw
    by_cases hlt : k < s.size
    ·have hd : decide ((k : Int) < (s.size : Int)) = true := by simp; omega
     have p1 : (0 : Int) ≤ (k : Int) := by omega
     have p2 : (k : Int) < (s.size : Int) := by omega
     have HG := zh (getD_byteN s k hlt)
     have HC := zh (fun w => digit_any (s[k].toNat : Int) w)
     rw [digB_isD] at HC
     cases hc : isD s[k]
     ·have HN := zh (HPN.out (.inl (all_take_no HG.out hc)))
      rw [hc] at HC
      clear hc HPN HPY
      go_wp2_with fail
      refine (HC.out _).mono ?_
      rintro e w' ⟨rfl, rfl⟩
      go_wp2_with fail
      go_ret2
      exact ⟨by rw [HN.out.1, HN.out.2]; rfl, rfl⟩
     ·rw [hc] at HC
      have hc2 := hc
      unfold isD at hc2
      simp only [Bool.and_eq_true, decide_eq_true_eq] at hc2
      have hva : valL (s.data.toList.take (k + 1)) = 10 * V + (s[k].toNat - 48) := by rw [take_byteN s k hlt, valL_snoc, ← HV.out]
      have hal : (s.data.toList.take (k + 1)).all isD = true := by rw [take_byteN s k hlt, List.all_append, HA.out, List.all_cons, hc]; rfl
      have hle := valL_take_le s.data.toList (k + 1)
      obtain ⟨m, hm⟩ : ∃ m, 10 * V + (s[k].toNat - 48) = m := ⟨_, rfl⟩
      have q1 : IntKind.i64.wrap (10 * (V : Int)) = 10 * (V : Int) := IntWalk.i64_in _ (by omega)
      have q2 : ((s[k].toNat : Int) - 48) % 256 = (s[k].toNat : Int) - 48 := by omega
      have q3 : 10 * (V : Int) + ((s[k].toNat : Int) - 48) = (m : Int) := by omega
      have q4 : IntKind.i64.wrap (m : Int) = (m : Int) := IntWalk.i64_in _ (by omega)
      rw [hm] at hva
      by_cases hb : 1099511627776 < m
      ·have hbd : decide ((m : Int) > 1099511627776) = true := by simp; omega
       have HN := zh (HPN.out (.inr (by omega)))
       clear hc hc2 hva hal hle hm HPN HPY
       go_wp2_with fail
       refine (HC.out _).mono ?_
       rintro e w' ⟨rfl, rfl⟩
       go_wp2_with fail
       go_ret2
       exact ⟨by rw [HN.out.1, HN.out.2]; rfl, rfl⟩
      ·have hbd : decide ((m : Int) > 1099511627776) = false := by simp; omega
       have HVA := zh hva.symm; have HAL := zh hal
       clear hc hc2 hva hal hle hm HPN HPY
       go_wp2_with fail
       refine (HC.out _).mono ?_
       rintro e w' ⟨rfl, rfl⟩
       go_wp2_with fail
       go_roundw
       case rel => exact ⟨k + 1, m, by omega, by go_num, rfl, by omega, HVA, HAL, by first | rfl | exact trivial⟩
       case measure => simp [intOf]; omega
    ·obtain rfl : k = s.size := by omega
     have hd : decide ((s.size : Int) < (s.size : Int)) = false := by simp
     have htk : s.data.toList.take s.size = s.data.toList := List.take_of_length_le (by rw [← HLS.out]; exact Nat.le_refl _)
     have ha := HA.out; have hv := HV.out
     rw [htk] at ha hv
     have HN := zh (HPY.out ha (by rw [← hv]; exact hV))
     have HV2 := zh hv
     clear htk ha hv HPN HPY
     go_wp2_with fail
     go_ret2
     exact ⟨by rw [HN.out.1, HN.out.2, ← HV2.out]; rfl, rfl⟩
end Go.Proofs.YtecllfbadciaoaaGreatDoor
namespace Go.Proofs
open Go.Shelf
def Tryz.lays173_ren : Go.Shelf.Ren := ⟨fun | 173 => 75 | 246 => 112 | 283 => 132 | 284 => 133 | 285 => 134 | 286 => 135 | 129 => 149 | 317 => 148 | 318 => 150 | 319 => 151 | 320 => 152 | 337 => 157 | 338 => 158 | n => n, fun | 2 => 2 | 3 => 3 | 9 => 9 | 4 => 4 | 171 => 157 | 0 => 0 | 53 => 96 | 37 => 22 | 5 => 5 | 173 => 160 | 212 => 173 | 51 => 174 | 20 => 20 | 213 => 175 | 46 => 132 | 232 => 79 | 233 => 186 | n => n, fun | 17 => 1 | 18 => 4 | 19 => 5 | n => n⟩
theorem Tryz.lays173 : Go.Proofs.LaysM.n173 Tryz.prog Tryz.lays173_ren := {
 mixed := by kernel_rfl
 f129 := Tryz.func149.trans (congrArg some (by kernel_rfl))
 f173 := Tryz.func75.trans (congrArg some (by kernel_rfl))
 f246 := Tryz.func112.trans (congrArg some (by kernel_rfl))
 f283 := Tryz.func132.trans (congrArg some (by kernel_rfl))
 f284 := Tryz.func133.trans (congrArg some (by kernel_rfl))
 f285 := Tryz.func134.trans (congrArg some (by kernel_rfl))
 f286 := Tryz.func135.trans (congrArg some (by kernel_rfl))
 f317 := Tryz.func148.trans (congrArg some (by kernel_rfl))
 f318 := Tryz.func150.trans (congrArg some (by kernel_rfl))
 f319 := Tryz.func151.trans (congrArg some (by kernel_rfl))
 f320 := Tryz.func152.trans (congrArg some (by kernel_rfl))
 f337 := Tryz.func157.trans (congrArg some (by kernel_rfl))
 f338 := Tryz.func158.trans (congrArg some (by kernel_rfl))
 t0 := Tryz.underlying0
 a0 := Tryz.isAgg0
 z0 := Tryz.sizeOf0
 v0 := Tryz.zeroValue0
 t2 := Tryz.underlying2
 a2 := Tryz.isAgg2
 z2 := Tryz.sizeOf2
 v2 := Tryz.zeroValue2
 t3 := Tryz.underlying3
 a3 := Tryz.isAgg3
 z3 := Tryz.sizeOf3
 v3 := Tryz.zeroValue3
 t4 := Tryz.underlying4
 a4 := Tryz.isAgg4
 z4 := Tryz.sizeOf4
 v4 := Tryz.zeroValue4
 t5 := Tryz.underlying5
 a5 := Tryz.isAgg5
 z5 := Tryz.sizeOf5
 v5 := Tryz.zeroValue5
 t9 := Tryz.underlying9
 a9 := Tryz.isAgg9
 z9 := Tryz.sizeOf9
 v9 := Tryz.zeroValue9
 t20 := Tryz.underlying20
 a20 := Tryz.isAgg20
 z20 := Tryz.sizeOf20
 v20 := Tryz.zeroValue20
 t37 := Tryz.underlying22
 a37 := Tryz.isAgg22
 z37 := Tryz.sizeOf22
 v37 := Tryz.zeroValue22
 t46 := Tryz.underlying132
 a46 := Tryz.isAgg132
 z46 := Tryz.sizeOf132
 v46 := Tryz.zeroValue132
 t51 := Tryz.underlying174
 a51 := Tryz.isAgg174
 z51 := Tryz.sizeOf174
 v51 := Tryz.zeroValue174
 t53 := Tryz.underlying96
 a53 := Tryz.isAgg96
 z53 := Tryz.sizeOf96
 v53 := Tryz.zeroValue96
 t171 := Tryz.underlying157
 a171 := Tryz.isAgg157
 z171 := Tryz.sizeOf157
 v171 := Tryz.zeroValue157
 t173 := Tryz.underlying160
 a173 := Tryz.isAgg160
 z173 := Tryz.sizeOf160
 v173 := Tryz.zeroValue160
 t212 := Tryz.underlying173
 a212 := Tryz.isAgg173
 z212 := Tryz.sizeOf173
 v212 := Tryz.zeroValue173
 t213 := Tryz.underlying175
 a213 := Tryz.isAgg175
 z213 := Tryz.sizeOf175
 t232 := Tryz.underlying79
 a232 := Tryz.isAgg79
 z232 := Tryz.sizeOf79
 v232 := Tryz.zeroValue79
 t233 := Tryz.underlying186
 a233 := Tryz.isAgg186
 z233 := Tryz.sizeOf186
 v233 := Tryz.zeroValue186
 g17 := by kernel_rfl
 g18 := by kernel_rfl
 g19 := by kernel_rfl
 i0 := by kernel_rfl
 i2 := by kernel_rfl
 i3 := by kernel_rfl
 i4 := by kernel_rfl
 i5 := by kernel_rfl
 i9 := by kernel_rfl
 i20 := by kernel_rfl
 i37 := by kernel_rfl
 i46 := by kernel_rfl
 i51 := by kernel_rfl
 i53 := by kernel_rfl
 i171 := by kernel_rfl
 i173 := by kernel_rfl
 i212 := by kernel_rfl
 i232 := by kernel_rfl
 i233 := by kernel_rfl
 m17 := by kernel_rfl
 m18 := by kernel_rfl
 m19 := by kernel_rfl }
end Go.Proofs
namespace Go.Proofs.YtecllfbadciaoaaGreatDoor
open Go.RowKit
theorem FormatInt_any (n : Int) (h0 : -9223372036854775808 ≤ n) (h1 : n ≤ 9223372036854775807) (w : World) (ht : Lib.TabIs Tryz.prog w "internal/strconv.uint64pow10" .u64 Lib.pow10Tab) :
 Calls Tryz.prog 75 #[.int .i64 n, .int .i64 10] w fun e w' => e = .returned (.string ⟨(Lib.itoa n).toArray⟩) ∧ Below w.heap.size w w' :=
 (Any.strconv_FormatInt_10 Tryz.lays173 n h0 h1 w ht).mono fun e w' ⟨he, k, os, hw⟩ => ⟨he, by rw [hw]; exact Lib.below_grow _ _ (Nat.le_refl _) _ _⟩
theorem Number_any (n : Int) (h0 : -9223372036854775808 ≤ n) (h1 : n ≤ 9223372036854775807) (w : World) (ht : Lib.TabIs Tryz.prog w "internal/strconv.uint64pow10" .u64 Lib.pow10Tab) :
 Calls Tryz.prog 39 #[.int .i64 n] w fun e w' => e = .returned (.string ⟨(Lib.itoa n).toArray⟩) ∧ Below w.heap.size w w' := by
 have HC := zh (FormatInt_any n h0 h1 w ht)
 clear h0 h1 ht
 go_enter Tryz.func39, Tryz.ntmps39
 go_wp2_with fail
 refine HC.out.mono ?_
 rintro e w1 ⟨rfl, b1⟩
 go_wp2_with fail
 go_ret
 exact ⟨rfl, b1⟩
end Go.Proofs.YtecllfbadciaoaaGreatDoor
namespace Go.Proofs.YtecllfbadciaoaaGreatDoor
open Go
def rot (a b x : Int) : Int := bits .or .u32 (x / a) (x * b % 4294967296)
def xr (a b : Int) : Int := bits .xor .u32 a b
def an (a b : Int) : Int := bits .and .u32 a b
def ad (a b : Int) : Int := (a + b) % 4294967296
def chs (x y z : Int) : Int := xr (an x y) (an (xr IntKind.u32.max x) z)
def mjr (x y z : Int) : Int := xr (xr (an x y) (an x z)) (an y z)
def big0 (x : Int) : Int := xr (xr (rot 4 1073741824 x) (rot 8192 524288 x)) (rot 4194304 1024 x)
def big1 (x : Int) : Int := xr (xr (rot 64 67108864 x) (rot 2048 2097152 x)) (rot 33554432 128 x)
def sm0 (x : Int) : Int := xr (xr (rot 128 33554432 x) (rot 262144 16384 x)) (x / 8)
def sm1 (x : Int) : Int := xr (xr (rot 131072 32768 x) (rot 524288 8192 x)) (x / 1024)
structure St where
 a : Int
 b : Int
 c : Int
 d : Int
 e : Int
 f : Int
 g : Int
 h : Int
def St.list (s : St) : List Int := [s.a, s.b, s.c, s.d, s.e, s.f, s.g, s.h]
def tOne (k w : Int) (s : St) : Int := ad (ad (ad (ad s.h (big1 s.e)) (chs s.e s.f s.g)) k) w
def tTwo (s : St) : Int := ad (big0 s.a) (mjr s.a s.b s.c)
def rnd (k w : Int) (s : St) : St := ⟨ad (tOne k w s) (tTwo s), s.a, s.b, s.c, ad s.d (tOne k w s), s.e, s.f, s.g⟩
def kay : List Int := [1116352408, 1899447441, 3049323471, 3921009573, 961987163, 1508970993, 2453635748, 2870763221, 3624381080, 310598401, 607225278, 1426881987, 1925078388, 2162078206, 2614888103, 3248222580, 3835390401, 4022224774, 264347078, 604807628, 770255983, 1249150122, 1555081692, 1996064986, 2554220882, 2821834349, 2952996808, 3210313671, 3336571891, 3584528711, 113926993, 338241895, 666307205, 773529912, 1294757372, 1396182291, 1695183700, 1986661051, 2177026350, 2456956037, 2730485921, 2820302411, 3259730800, 3345764771, 3516065817, 3600352804, 4094571909, 275423344, 430227734, 506948616, 659060556, 883997877, 958139571, 1322822218, 1537002063, 1747873779, 1955562222, 2024104815, 2227730452, 2361852424, 2428436474, 2756734187, 3204031479, 3329325298]
def rnds (W : List Int) (s : St) : Nat → St
 | 0 => s
 | n + 1 => rnd (kay.getD n 0) (W.getD n 0) (rnds W s n)
def wd (p : List Int) (i : Nat) : Int :=
 bits .or .u32 (bits .or .u32 (bits .or .u32 (p.getD (4 * i) 0 * 16777216) (p.getD (4 * i + 1) 0 * 65536)) (p.getD (4 * i + 2) 0 * 256)) (p.getD (4 * i + 3) 0)
def msg (p : List Int) (n : Nat) : List Int := (List.range n).map (wd p)
def wnext (l : List Int) (n : Nat) : Int := ad (ad (ad (l.getD n 0) (sm0 (l.getD (n + 1) 0))) (l.getD (n + 9) 0)) (sm1 (l.getD (n + 14) 0))
def sched (m : List Int) : Nat → List Int
 | 0 => m
 | n + 1 => sched m n ++ [wnext (sched m n) n]
def words (p : List Int) : List Int := sched (msg p 16) 48
def comp (h : St) (p : List Int) : St :=
 let s := rnds (words p) h 64
 ⟨ad h.a s.a, ad h.b s.b, ad h.c s.c, ad h.d s.d, ad h.e s.e, ad h.f s.f, ad h.g s.g, ad h.h s.h⟩
def iv : St := ⟨1779033703, 3144134277, 1013904242, 2773480762, 1359893119, 2600822924, 528734635, 1541459225⟩
def blks : Nat → St → List Int → St
 | 0, s, _ => s
 | n + 1, s, p => blks n (comp s (p.take 64)) (p.drop 64)
def fillTo (n : Nat) (l : List Int) : List Int := l ++ List.replicate (n - l.length) 0
end Go.Proofs.YtecllfbadciaoaaGreatDoor
namespace Go.Proofs.YtecllfbadciaoaaGreatDoor
open Go.RowKit
theorem heap_cell {w : World} {g j : Nat} {L : List Value} {t : TypeId} {fr : Nat × Nat} {v : Value} (hg : w.heap[g]? = some (.cells L.toArray t fr)) (hv : L[j]? = some v) : w.cell? ⟨g, j, none⟩ = some v := by
 rw [cell_of_row w g j _ t fr hg]; simpa using hv
theorem getD_map {α β : Type} (l : List α) (f : α → β) (i : Nat) (d : α) (h : i < l.length) : (l.map f)[i]? = some (f (l.getD i d)) := by
 simp [List.getD_eq_getElem?_getD, List.getElem?_eq_getElem h]
def RowIn (w : World) (b : Nat) (t : TypeId) (k : IntKind) (L : List Int) : Prop := w.heap[b]? = some (.cells (L.map (Value.int k)).toArray t (0, 0))
theorem RowIn.get {w : World} {b : Nat} {t : TypeId} {k : IntKind} {L : List Int} (h : RowIn w b t k L) (i : Nat) (hi : i < L.length) : w.cell? ⟨b, i, none⟩ = some (.int k (L.getD i 0)) :=
 heap_cell h (getD_map _ _ _ _ hi)
theorem RowIn.free {w : World} {b : Nat} {t : TypeId} {k : IntKind} {L : List Int} (h : RowIn w b t k L) (i : Nat) : w.frozen? ⟨b, i, none⟩ = false := frozen_of_row _ _ _ _ _ h
theorem RowIn.put {w : World} {b : Nat} {t : TypeId} {k : IntKind} {L : List Int} (h : RowIn w b t k L) (i : Nat) (v : Int) : RowIn (w.setCell ⟨b, i, none⟩ (.int k v)) b t k (L.set i v) := by
 unfold RowIn; rw [heap_setCell_same _ _ _ _ _ _ h]; simp [List.map_set]
theorem RowIn.put_other {w : World} {b : Nat} {t : TypeId} {k : IntKind} {L : List Int} (h : RowIn w b t k L) (a : Addr) (v : Value) (ha : b ≠ a.block) : RowIn (w.setCell a v) b t k L := by
 unfold RowIn; rw [heap_setCell_other _ _ _ _ ha]; exact h
theorem RowIn.drew {w : World} {b : Nat} {t : TypeId} {k : IntKind} {L : List Int} (h : RowIn w b t k L) : RowIn w.drew b t k L := h
theorem RowIn.lt {w : World} {b : Nat} {t : TypeId} {k : IntKind} {L : List Int} (h : RowIn w b t k L) : b < w.heap.size := by
 unfold RowIn at h; exact (Array.getElem?_eq_some_iff.1 h).1
theorem RowIn.alloc {w : World} {b : Nat} {t : TypeId} {k : IntKind} {L : List Int} (h : RowIn w b t k L) (o : Obj) : RowIn (w.alloc o) b t k L := by
 exact (heap_alloc_old w o h.lt).trans h
theorem RowIn.below {w w' : World} {b B : Nat} {t : TypeId} {k : IntKind} {L : List Int} (h : RowIn w b t k L) (hb : Below B w w') (hlt : b < B) : RowIn w' b t k L := by
 unfold RowIn; rw [hb.block b hlt]; exact h
theorem RowIn.setRow {w : World} {b : Nat} {t : TypeId} {k : IntKind} {L : List Int} (h : RowIn w b t k L) (M : List Int) : RowIn (w.setRow b (M.map (Value.int k)).toArray) b t k M := setRow_heap _ _ _ _ _ _ h
theorem oneCell_map (k : IntKind) (L : List Int) : (L.map (Value.int k)).toArray.all (·.oneCell') = true :=
 all_oneCell_toArray (fun v hv => by simp at hv; obtain ⟨n, _, rfl⟩ := hv; rfl)
def hcells (st : St) (rest : List Int) (used : Nat) (len : Int) : List Value :=
 st.list.map (Value.int .u32) ++ (rest.map (Value.int .u8) ++ [.int .i64 used, .int .u64 len])
theorem below_of_grown {w w' : World} {hb : Nat} (h : w.grownBy w' (some hb)) (hlt : hb ≤ w.heap.size) : Below hb w w' := ⟨h.os, h.tape, h.output, h.size, fun k hk => h.block k (by omega) (fun e => by injection e; omega)⟩
theorem grown_set {w w' : World} {b : Nat} (h : w.grownBy w' (some b)) (i : Nat) (v : Value) : w.grownBy (w'.setCell ⟨b, i, none⟩ v) (some b) :=
 ⟨h.os, h.tape, h.output, by simp [World.setCell]; exact h.size, fun k hk hne => (Below.heap_setCell _ _ _ _ (fun e => hne (by rw [e]))).trans (h.block k hk hne)⟩
theorem Tryz.info25d : (Tryz.prog.info? 80).map (·.size) = some 32 := by kernel_rfl
def wb (x : Int) : List Int := [(x / 16777216) % 256, (x / 65536) % 256, (x / 256) % 256, x % 256]
def dbytes : List Int → List Int
 | [] => []
 | x :: r => wb x ++ dbytes r
theorem take_snoc0 (l : List Int) (k : Nat) (h : k < l.length) : l.take (k + 1) = l.take k ++ [l.getD k 0] := by
 rw [List.take_succ_eq_append_getElem h]; simp [List.getD_eq_getElem?_getD, List.getElem?_eq_getElem h]
structure DigAt (B : Nat) (w wr : World) (L : List Int) : Prop where
 row : RowIn wr (B + 1) 80 .u8 L
 res : RowIn wr B 80 .u8 (List.replicate 32 0)
 bel : Below B w wr
 size : wr.heap.size = B + 2
theorem DigAt.start (w : World) : DigAt w.heap.size w ((w.alloc (.cells (Array.replicate 32 (Value.int .u8 0)) 80)).alloc (.cells (Array.replicate 32 (Value.int .u8 0)) 80)) (fillTo 32 []) :=
 ⟨heap_alloc2_new _ _ _, heap_alloc2_old _ _ _, ((Below.refl _ _).alloc (Nat.le_refl _) _).alloc (by simp) _, by simp⟩
theorem DigAt.put {B : Nat} {w wr : World} {L : List Int} (h : DigAt B w wr L) (i : Nat) (v : Int) : DigAt B w (wr.setCell ⟨B + 1, i, none⟩ (.int .u8 v)) (L.set i v) :=
 ⟨h.row.put i v, h.res.put_other _ _ (by simp), h.bel.setCell (by simp) _, by simp [World.setCell, h.size]⟩
end Go.Proofs.YtecllfbadciaoaaGreatDoor
