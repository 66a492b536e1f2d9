/-
  The walk of the reference's Encode: it answers as document.Encode does (condition: the lines read as lists of words).
-/
import Derived.Test.YtecllfbadciaoaaGreatDoorZip
import Derived.Test.YtecllfbadciaoaaGreatDoorQ22
set_option maxRecDepth 100000
set_option maxHeartbeats 8000000
namespace Go.Proofs.YtecllfbadciaoaaGreatDoor
open Go.RowKit
def jn (l : List ByteArray) (j : Nat) : List UInt8 := (body (l.take j)).dropLast
theorem jn_zero (l : List ByteArray) : jn l 0 = [] := rfl
theorem jn_first {l : List ByteArray} (h : 0 < l.length) : jn l 1 = wordL l[0].data.toList := by
 unfold jn; rw [body_succ l 0 h]; simp [body]
theorem jn_next {l : List ByteArray} {j : Nat} (h0 : j ≠ 0) (hj : j < l.length) : jn l (j + 1) = (jn l j ++ [32]) ++ wordL l[j].data.toList := by
 have hp : 0 < (l.take j).length := by rw [List.length_take]; omega
 unfold jn
 rw [body_succ l j hj, ← body_last hp, ← List.append_assoc, List.dropLast_concat]
theorem body_le {l : List ByteArray} (hs : ∀ s ∈ l, s.size ≤ 32768) : (body l).length ≤ 98306 * l.length := by
 induction l with
 | nil => simp [body]
 | cons a t ih =>
   have h1 := ih (fun s hs' => hs s (List.mem_cons_of_mem _ hs'))
   have h2 := hs a (List.mem_cons_self ..)
   have h3 := wordL_le a.data.toList
   rw [← Lib.size_eq] at h3
   unfold body at h1 ⊢
   simp only [List.flatMap_cons, List.length_append, List.length_cons, List.length_nil]
   omega
theorem jn_le (l : List ByteArray) (j : Nat) (hs : ∀ s ∈ l.take j, s.size ≤ 32768) : (jn l j).length ≤ 98306 * j := by
 have h1 := body_le hs
 have h2 : (l.take j).length ≤ j := List.length_take_le _ _
 unfold jn; rw [List.length_dropLast]; omega
theorem not_lng {l : List ByteArray} (h : l.any lng = false) : ∀ s ∈ l, s.size ≤ 32768 := fun s hs => by
 rcases Nat.lt_or_ge 32768 s.size with hlt | hge
 ·have : l.any lng = true := List.any_eq_true.2 ⟨s, hs, by unfold lng; exact decide_eq_true hlt⟩
  rw [h] at this; cases this
 ·exact hge
theorem lineL_jn {l : List ByteArray} : lineL l = jn l l.length ++ [10] := by
 unfold lineL jn; rw [List.take_of_length_le (Nat.le_refl _)]
theorem chk_of_bad {wl : List (List ByteArray)} {r : Nat} (h : wl.length ≤ 1000) (hb : firstBad wl = r) : chk wl = r := by unfold chk; rw [if_neg (by omega), hb]
theorem firstBad_step {wl : List (List ByteArray)} {k : Nat} {l : List ByteArray} (hk : wl[k]? = some l) (h : firstBad (wl.take k) = 0) :
 (chkLine l = 0 → firstBad (wl.take (k + 1)) = 0) ∧ (chkLine l ≠ 0 → firstBad wl = chkLine l) := by
 obtain ⟨hlt, rfl⟩ := List.getElem?_eq_some_iff.1 hk
 exact firstBad_take wl k hlt h
theorem grown_of_below2 {w w' : World} {row : Option Nat} (h : Below w.heap.size w w') : w.grownBy w' row := ⟨h.os, h.tape, h.output, h.size, fun k hk _ => h.block k hk⟩
theorem own_below {w w' : World} {base e size : Nat} {v : Value} {n : Nat} {xs : List Value} (h : w.ownsRow base e size v n xs) (hb : Below w.heap.size w w') : w'.ownsRow base e size v n xs :=
 h.kept (row := none) (grown_of_below2 hb) (by cases hv : v.ownBlock <;> simp)
theorem refEncode_any (pa : Option Addr) (np ncap : Nat) (ls : List Ln) (w : World) (hp : LinesIn w w.heap.size pa np ls) (hmax : np ≤ 9223372036854775807) (hmax2 : ∀ q ∈ ls, q.n ≤ 9223372036854775807) :
 Calls Tryz.prog 25 #[.slice pa np ncap] w (EncRes w (wordsOf ls)) := by
 have HP := zh hp; have HM := zh hmax2; clear hp hmax2
 obtain ⟨i0, hi0, hz0, hz1, hz2⟩ := info_parts Tryz.info5
 have HI0 := zh hi0; have HZ0 := zh hz0; have HZ1 := zh hz1; have HZ2 := zh hz2
 clear hi0 hz0 hz1 hz2
 have HLEN := zh HP.out.len
 have HL2 := zh (wordsOf_length ls)
 have HGET := zh (wordsOf_get? ls)
 generalize hwl : wordsOf ls = wl at *
 clear hwl
 by_cases hbig : 1000 < np
 ·have HE : Hid (enc wl = (3, [])) := by
   have hc : chk wl = 3 := by unfold chk; rw [if_pos (by rw [HL2.out, HLEN.out]; exact hbig)]
   show _ = _; rw [enc_bad (by rw [hc]; decide), hc]
  go_enter Tryz.func25, Tryz.ntmps25
  go_wp2_with fail
  go_ret2
  exact ⟨.slice none 0 0, by rw [HE.out]; rfl, by rw [HE.out]; exact World.ownsRow_nil _ _ _ _, Below.refl _ _⟩
 ·have HW1 : Hid (wl.length ≤ 1000) := by show _ ≤ _; rw [HL2.out, HLEN.out]; omega
  go_enter Tryz.func25, Tryz.ntmps25
  go_wp2_with fail
  go_loopg [4, 5] np (fun g b i wx => ∃ k : Nat, k + g = np ∧ i = .int .i64 k ∧ Hid (firstBad (wl.take k) = 0) ∧ ∃ sp cap, b = .slice sp (encL (wl.take k)).length cap ∧ Hid (wx.ownsRow w.heap.size 5 1 (.slice sp (encL (wl.take k)).length cap) (encL (wl.take k)).length (Lib.byteCells (encL (wl.take k)))) ∧ (encL (wl.take k)).length ≤ 16777216 * k ∧ Below w.heap.size w wx)
  case atStart => exact ⟨0, by omega, rfl, by show _ = _; simp [firstBad], none, 0, by simp [encL], by show World.ownsRow _ _ _ _ _ _ _; simp [encL]; exact World.ownsRow_nil _ _ _ _, by simp [encL], Below.refl _ _⟩
  case round =>
   obtain ⟨k, hg, rfl, HB, sp, cap, rfl, hown, hle, hbe⟩ := hrel
   have hbs := hbe.size
   by_cases hlt : k < np
   ·have hk2 : k < ls.length := by have := HLEN.out; omega
    obtain ⟨pb, po, rfl, hpb, hcell⟩ := HP.out.cells (by omega)
    have HC : Hid (w.cell? ⟨pb, po + k, none⟩ = some (.slice ls[k].sp ls[k].n ls[k].cap)) := hcell k hk2
    have HE := zh (HP.out.each _ (List.getElem_mem hk2))
    have HLK := zh (HGET.out k hk2)
    have hmx := HM.out _ (List.getElem_mem hk2)
    clear hcell
    generalize ls[k].sp = lsp at *
    generalize ls[k].n = n at *
    generalize ls[k].cap = lcap at *
    generalize ls[k].l = l at *
    obtain rfl := HE.out.len
    have HNX := zh (encL_next HLK.out)
    have HST := zh (firstBad_step HLK.out HB.out)
    have ck : wr.cell? ⟨pb, po + k, none⟩ = some (.slice lsp l.length lcap) := (hbe.cell (p := ⟨pb, po + k, none⟩) hpb).trans HC.out
    by_cases h0 : l.length = 0
    ·have h0b : ((l.length : Int) == 0) = true := beq_iff_eq.2 (by omega)
     have HEN : Hid (enc wl = (1, [])) := by
      have hc := chk_of_bad HW1.out (HST.out.2 (by rw [chkLine_zero h0]; decide))
      rw [chkLine_zero h0] at hc
      show _ = _; rw [enc_bad (by rw [hc]; decide), hc]
     have H0 := zh h0; clear h0
     generalize encL (wl.take k) = X at *
     go_wp2_with fail
     go_ret2
     exact ⟨.slice none 0 0, by rw [HEN.out]; rfl, by rw [HEN.out]; exact World.ownsRow_nil _ _ _ _, hbe⟩
    ·have h0b : ((l.length : Int) == 0) = false := beq_eq_false_iff_ne.2 (by omega)
     by_cases h1 : 120 < l.length
     ·have HEN : Hid (enc wl = (3, [])) := by
       have hc := chk_of_bad HW1.out (HST.out.2 (by rw [chkLine_wide h1]; decide))
       rw [chkLine_wide h1] at hc
       show _ = _; rw [enc_bad (by rw [hc]; decide), hc]
      generalize encL (wl.take k) = X at *
      clear h0
      go_wp2_with fail
      go_ret2
      exact ⟨.slice none 0 0, by rw [HEN.out]; rfl, by rw [HEN.out]; exact World.ownsRow_nil _ _ _ _, hbe⟩
     ·have hLJ := lineL_jn (l := l)
      have HLJ := zh hLJ; clear hLJ
      generalize encL (wl.take k) = X at *
      go_wp2_with fail
      go_loopg [4, 6] l.length (fun g b i wy => ∃ j : Nat, j + g = l.length ∧ i = .int .i64 j ∧ Hid ((l.take j).any lng = false) ∧ ∃ sp cap, b = .slice sp (X ++ jn l j).length cap ∧ Hid (wy.ownsRow w.heap.size 5 1 (.slice sp (X ++ jn l j).length cap) (X ++ jn l j).length (Lib.byteCells (X ++ jn l j))) ∧ Below w.heap.size w wy)
      case atStart => exact ⟨0, by omega, rfl, by show _ = _; simp, sp, cap, by simp [jn_zero], by show World.ownsRow _ _ _ _ _ _ _; simpa [jn_zero] using hown.out, hbe⟩
      case round =>
       clear hown hbe ck hbs
       obtain ⟨j, hg2, rfl, HA, sp2, cap2, rfl, hown, hbe⟩ := hrel
       have hbs := hbe.size
       have ck : wr.cell? ⟨pb, po + k, none⟩ = some (.slice lsp l.length lcap) := (hbe.cell (p := ⟨pb, po + k, none⟩) hpb).trans HC.out
       have hjl := jn_le l j (not_lng HA.out)
       by_cases hj : j < l.length
       ·obtain ⟨sb, so, rfl, hsb, hsc⟩ := HE.out.cells (by omega)
        have HCW : Hid (w.cell? ⟨sb, so + j, none⟩ = some (.string l[j])) := hsc j hj
        have cw : wr.cell? ⟨sb, so + j, none⟩ = some (.string l[j]) := (hbe.cell (p := ⟨sb, so + j, none⟩) hsb).trans HCW.out
        clear hsc
        by_cases hw : 32768 < (l[j]).size
        ·have HEN : Hid (enc wl = (3, [])) := by
          have hb := chkLine_long h0 (any_of l j hj (by unfold lng; exact decide_eq_true hw))
          have hc := chk_of_bad HW1.out (HST.out.2 (by rw [hb]; decide))
          rw [hb] at hc
          show _ = _; rw [enc_bad (by rw [hc]; decide), hc]
         generalize l[j] = s at *
         have hd1 : decide ((s.size : Int) > 32768) = true := decide_eq_true (by omega)
         have hd2 : decide (32768 < (s.size : Int)) = true := decide_eq_true (by omega)
         clear h0 hjl
         go_wp2_with fail
         go_ret2
         exact ⟨.slice none 0 0, by rw [HEN.out]; rfl, by rw [HEN.out]; exact World.ownsRow_nil _ _ _ _, hbe⟩
        ·have HA2 := zh (any_take_succ l j hj HA.out (by unfold lng; exact decide_eq_false hw))
         by_cases hj0 : j = 0
         ·have HJ : Hid (X ++ jn l (j + 1) = (X ++ jn l j) ++ wordL l[j].data.toList) := by
           subst hj0
           show _ = _; rw [jn_first hj, jn_zero, List.append_nil]
          have hj0' : ¬ ((0 : Int) < (j : Int)) := by omega
          generalize l[j] = s at *
          have hwl := wordL_le s.data.toList
          rw [← Lib.size_eq] at hwl
          have hy : (X ++ jn l j).length ≤ 17000000000 := by rw [List.length_append]; omega
          have HRW := fun w => zh (refWord_any s w (by omega))
          generalize hS : wordL s.data.toList = S at *
          have HS := zh (show (⟨S.toArray⟩ : ByteArray).size = S.length from rfl)
          have HSD := zh (show Lib.strCells ⟨S.toArray⟩ = Lib.byteCells S from rfl)
          generalize (⟨S.toArray⟩ : ByteArray) = sS at *
          have hsz : sS.size ≤ 98305 := by rw [HS.out]; omega
          have hd1 : decide ((s.size : Int) > 32768) = false := decide_eq_false (by omega)
          have hd2 : decide (32768 < (s.size : Int)) = false := decide_eq_false (by omega)
          generalize X ++ jn l j = Y at *
          clear h0 hjl hS hj0
          go_wp2_with (first
           | (go_at_call 57; refine (HRW _).out.mono ?_; rintro e w4 ⟨rfl, hbe4⟩; have hbs4 := hbe4.size; have hown4 := own_below hown.out hbe4)
           | (at_builtin; refine Lib.wpList_append_own_string _ rfl (.tmp 51) (.tmp 59) 22 9 rfl w.heap.size 5 i0 Tryz.underlying22 Tryz.underlying9 HI0.out HZ0.out HZ1.out HZ2.out _ _ _ rfl hown4 _ rfl (by unfold maxLen; omega) (by omega) (by omega) ?_; intro v5 w5 hown5 hg5 _; obtain ⟨sp5, cap5, rfl⟩ := own_shape hown5; have HO5 := zh hown5; clear hown5))
          go_roundg (l.length - (j + 1))
          case measure => omega
          case rel =>
           refine ⟨j + 1, by omega, by go_num, HA2.out, sp5, cap5, ?_, ?_, (hbe.trans (hbe4.mono hbs)).grown hg5 (by omega) (own_base hown4)⟩
           ·rw [HJ.out, List.length_append, ← HS.out]
           ·rw [HJ.out]
            have := HO5.out
            rw [HSD.out, ← Lib.byteCells_append] at this
            show World.ownsRow _ _ _ _ _ _ _
            rw [List.length_append, ← HS.out]; exact this
         ·have HJ : Hid (X ++ jn l (j + 1) = ((X ++ jn l j) ++ [32]) ++ wordL l[j].data.toList) := by show _ = _; rw [jn_next hj0 hj]; simp
          have hj0' : (0 : Int) < (j : Int) := by omega
          generalize l[j] = s at *
          have hwl := wordL_le s.data.toList
          rw [← Lib.size_eq] at hwl
          have hy : (X ++ jn l j).length ≤ 17000000000 := by rw [List.length_append]; omega
          have HRW := fun w => zh (refWord_any s w (by omega))
          generalize hS : wordL s.data.toList = S at *
          have HS := zh (show (⟨S.toArray⟩ : ByteArray).size = S.length from rfl)
          have HSD := zh (show Lib.strCells ⟨S.toArray⟩ = Lib.byteCells S from rfl)
          generalize (⟨S.toArray⟩ : ByteArray) = sS at *
          have hsz : sS.size ≤ 98305 := by rw [HS.out]; omega
          have hd1 : decide ((s.size : Int) > 32768) = false := decide_eq_false (by omega)
          have hd2 : decide (32768 < (s.size : Int)) = false := decide_eq_false (by omega)
          generalize X ++ jn l j = Y at *
          clear h0 hjl hS hj0
          go_wp2_with (first
           | (at_builtin; refine wpList_append_own _ rfl (.tmp 48) (.tmp 49) 22 rfl w.heap.size 5 i0 (.int .u8 0) 1 1 Tryz.underlying22 HI0.out HZ0.out HZ1.out HZ2.out rfl (by decide) _ _ _ rfl (hown.out.alloc _) ⟨wr.heap.size, 0, none⟩ 1 1 [.int .u8 32] rfl rfl (cell_one_new _ _ _) (by intro u hu; simp at hu; subst hu; rfl) (by unfold maxLen; omega) (by omega) (by simp; omega) ?_; intro v3 w3 hown3 hg3 _; have HO3 := zh hown3; clear hown3; have hbe3 := (hbe.alloc hbs _).grown hg3 (by simp; omega) (own_base hown.out); have hbs3 := hbe3.size; have ck3 := (hbe3.cell (p := ⟨pb, po + k, none⟩) hpb).trans HC.out; have cw3 := (hbe3.cell (p := ⟨sb, so + j, none⟩) hsb).trans HCW.out)
           | (go_at_call 57; refine (HRW _).out.mono ?_; rintro e w4 ⟨rfl, hbe4⟩; have hbs4 := hbe4.size; have hown4 := own_below HO3.out hbe4)
           | (at_builtin; refine Lib.wpList_append_own_string _ rfl (.tmp 51) (.tmp 59) 22 9 rfl w.heap.size 5 i0 Tryz.underlying22 Tryz.underlying9 HI0.out HZ0.out HZ1.out HZ2.out _ _ _ rfl hown4 _ rfl (by unfold maxLen; omega) (by omega) (by omega) ?_; intro v5 w5 hown5 hg5 _; obtain ⟨sp5, cap5, rfl⟩ := own_shape hown5; have HO5 := zh hown5; clear hown5))
          go_roundg (l.length - (j + 1))
          case measure => omega
          case rel =>
           refine ⟨j + 1, by omega, by go_num, HA2.out, sp5, cap5, ?_, ?_, (hbe3.trans (hbe4.mono hbs3)).grown hg5 (by omega) (own_base hown4)⟩
           ·rw [HJ.out, List.length_append, List.length_append, ← HS.out]; rfl
           ·rw [HJ.out]
            have := HO5.out
            rw [HSD.out] at this
            show World.ownsRow _ _ _ _ _ _ _
            rw [List.length_append, List.length_append, ← HS.out, Lib.byteCells_append, Lib.byteCells_append]; exact this
       ·obtain rfl : j = l.length := by omega
        have HFB : Hid (firstBad (wl.take (k + 1)) = 0) := by
         have ha := HA.out
         rw [List.take_of_length_le (Nat.le_refl _)] at ha
         exact HST.out.1 (chkLine_good h0 h1 ha)
        have hy : (X ++ jn l l.length).length ≤ 17000000000 := by rw [List.length_append]; omega
        have hyl : (X ++ jn l l.length).length + 1 ≤ 16777216 * (k + 1) := by rw [List.length_append]; omega
        have HEX : Hid (encL (wl.take (k + 1)) = (X ++ jn l l.length) ++ [10]) := by show _ = _; rw [HNX.out, HLJ.out, List.append_assoc]
        generalize X ++ jn l l.length = Y at *
        clear h0 hjl
        go_wp2_with (at_builtin; refine wpList_append_own _ rfl (.tmp 61) (.tmp 62) 22 rfl w.heap.size 5 i0 (.int .u8 0) 1 1 Tryz.underlying22 HI0.out HZ0.out HZ1.out HZ2.out rfl (by decide) _ _ _ rfl (hown.out.alloc _) ⟨wr.heap.size, 0, none⟩ 1 1 [.int .u8 10] rfl rfl (cell_one_new _ _ _) (by intro u hu; simp at hu; subst hu; rfl) (by unfold maxLen; omega) (by omega) (by simp; omega) ?_; intro v3 w3 hown3 hg3 _; obtain ⟨sp3, cap3, rfl⟩ := own_shape hown3; have HO3 := zh hown3; clear hown3)
        go_roundg (np - (k + 1))
        case measure => omega
        case rel =>
         refine ⟨k + 1, by omega, by go_num, HFB.out, sp3, cap3, ?_, ?_, ?_, (hbe.alloc hbs _).grown hg3 (by simp; omega) (own_base hown.out)⟩
         ·rw [HEX.out]; simp
         ·rw [HEX.out]
          have := HO3.out
          show World.ownsRow _ _ _ _ _ _ _
          simpa [Lib.byteCells_append, Lib.byteCells] using this
         ·rw [HEX.out, List.length_append]; exact hyl
   ·obtain rfl : k = np := by omega
    have hall : wl.take k = wl := List.take_of_length_le (by rw [HL2.out, HLEN.out]; exact Nat.le_refl _)
    have HCK : Hid (chk wl = 0) := chk_of_bad HW1.out (by rw [← hall]; exact HB.out)
    rw [hall] at hown hle
    rw [hall]
    clear hall HB
    by_cases hlong : 262144 < (encL wl).length
    ·have HE := zh (enc_much HCK.out hlong)
     have HHL := zh hlong
     obtain ⟨X, hX⟩ : ∃ X, encL wl = X := ⟨_, rfl⟩
     rw [hX] at hown hle hlong
     rw [hX]
     clear hX
     have hd1 : decide ((X.length : Int) > 262144) = true := decide_eq_true (by omega)
     have hd2 : decide (262144 < (X.length : Int)) = true := decide_eq_true (by omega)
     clear hlong hle
     go_wp2_with fail
     go_ret2
     exact ⟨.slice none 0 0, by rw [HE.out]; rfl, by rw [HE.out]; exact World.ownsRow_nil _ _ _ _, hbe⟩
    ·have HE := zh (enc_good HCK.out hlong)
     obtain ⟨X, hX⟩ : ∃ X, encL wl = X := ⟨_, rfl⟩
     rw [hX] at hown hle hlong HE
     rw [hX]
     clear hX
     have hd1 : decide ((X.length : Int) > 262144) = false := decide_eq_false (by omega)
     have hd2 : decide (262144 < (X.length : Int)) = false := decide_eq_false (by omega)
     clear hlong hle
     go_wp2_with fail
     go_ret2
     exact ⟨_, by rw [HE.out]; rfl, by rw [HE.out]; exact hown, hbe⟩
theorem value_any (c : UInt8) (w : World) :
 Calls Tryz.prog 109 #[.int .u8 (c.toNat : Int)] w fun e w' => e = .returned (.int .i64 (hexV c : Int)) ∧ w = w' := by
 have hc : c.toNat < 256 := UInt8.toNat_lt _
 have HV := zh (show hexV c = if 48 ≤ c.toNat ∧ c.toNat ≤ 57 then c.toNat - 48 else if 65 ≤ c.toNat ∧ c.toNat ≤ 70 then c.toNat - 55 else 16 from rfl)
 generalize hexV c = v at *
 generalize c.toNat = n at *
 by_cases h1 : 48 ≤ n ∧ n ≤ 57
 ·rw [if_pos h1] at HV
  obtain ⟨h1a, h1b⟩ := h1
  go_enter Tryz.func109, Tryz.ntmps109
  go_wp2
  go_ret
  exact ⟨ret_int (by rw [HV.out]; omega), rfl⟩
 ·rw [if_neg h1] at HV
  by_cases h2 : 65 ≤ n ∧ n ≤ 70
  ·rw [if_pos h2] at HV
   obtain ⟨h2a, h2b⟩ := h2
   clear h1
   go_enter Tryz.func109, Tryz.ntmps109
   go_wp2
   go_ret
   exact ⟨ret_int (by rw [HV.out]; omega), rfl⟩
  ·rw [if_neg h2] at HV
   go_enter Tryz.func109, Tryz.ntmps109
   go_wp2
   all_goals first
    | (exfalso; omega)
    | (go_ret; exact ⟨ret_int (by rw [HV.out]; rfl), rfl⟩)
theorem quietD {P : Program} {f : FuncId} {args : Array Value} {w : World} {n : Nat} {v : Value}
 (h : Calls P f args (w.drewN n) fun e w' => e = .returned v ∧ w.drewN n = w') : Calls P f args (w.drewN n) fun e w'' => e = .returned v ∧ ∃ m, w'' = w.drewN m :=
 h.mono fun _ _ ⟨he, hm⟩ => ⟨he, n, hm.symm⟩
theorem esc_short {s : ByteArray} {k : Nat} (h : s.size < k + 3) : escD (s.data.toList.drop (k + 1)) = none := by
 have hl : (s.data.toList.drop (k + 1)).length < 2 := by rw [List.length_drop, ← Lib.size_eq]; omega
 match s.data.toList.drop (k + 1), hl with
 | [], _ => rfl
 | [_], _ => rfl
theorem esc_long {s : ByteArray} {k : Nat} (h : k + 3 ≤ s.size) : escD (s.data.toList.drop (k + 1)) = escV (s[k + 1]'(by omega)) (s[k + 2]'(by omega)) := by
 rw [drop_cons_data s (k + 1) (by omega), drop_cons_data s (k + 2) (by omega)]; rfl
theorem refUnword_any (s : ByteArray) (w : World) (hs : s.size ≤ 1099511627776) :
 Calls Tryz.prog 72 #[.string s] w (UnwRes (unword s.data.toList) w) := by
 by_cases h0 : s.size = 0
 ·have HR := zh (show unword s.data.toList = none by rw [data_nil_of h0]; rfl)
  have e0 : s.toList = [] := by rw [Lib.toList_data]; exact data_nil_of h0
  generalize unword s.data.toList = r at *
  clear h0
  go_enter Tryz.func72, Tryz.ntmps72
  go_wp2_with fail
  go_ret2
  exact ⟨by rw [HR.out]; rfl, Below.refl _ _⟩
 ·have hne := data_ne_of h0
  have e0 : s.toList.isEmpty = false := by
   rw [Lib.toList_data, List.isEmpty_eq_false_iff]; exact hne
  by_cases ht : s.data.toList = [126]
  ·have HR := zh (show unword s.data.toList = some [] by rw [ht]; rfl)
   have e1 : (s.toList == [126]) = true := by rw [Lib.toList_data, ht]; rfl
   generalize unword s.data.toList = r at *
   clear h0 hne ht
   go_enter Tryz.func72, Tryz.ntmps72
   go_wp2_with fail
   go_ret2
   exact ⟨by rw [HR.out]; rfl, Below.refl _ _⟩
  ·have HR := zh (show unword s.data.toList = (unwL (s.data.toList.drop 0)).map ([] ++ ·) by
    unfold unword; rw [if_neg hne, if_neg ht, List.drop_zero]; simp)
   have e1 : (s.toList == [126]) = false := by rw [Lib.toList_data, beq_eq_false_iff_ne]; exact ht
   generalize unword s.data.toList = r at *
   obtain ⟨i0, hi0, hz0, hz1, hz2⟩ := info_parts Tryz.info5
   have HI0 := zh hi0; have HZ0 := zh hz0; have HZ1 := zh hz1; have HZ2 := zh hz2
   clear hi0 hz0 hz1 hz2 h0 hne ht
   go_enter Tryz.func72, Tryz.ntmps72
   go_wp2_with fail
   go_loopw [4, 5] (fun v i wr => ∃ (k : Nat) (acc : List UInt8), k ≤ s.size ∧ i = .int .i64 k ∧ acc.length ≤ k ∧ Hid (r = (unwL (s.data.toList.drop k)).map (acc ++ ·)) ∧ Hid (wr.ownsRow w.heap.size 5 1 v acc.length (Lib.byteCells acc)) ∧ Below w.heap.size w wr) (fun _ i _ => s.size - (intOf i).toNat)
   case atStart => exact ⟨0, [], by omega, rfl, by simp, HR.out, World.ownsRow_nil _ _ _ _, Below.refl _ _⟩
   case round =>
    clear HR
    obtain ⟨k, acc, hk, rfl, hal, HA, hown, hbe⟩ := hrel
    have hbs := hbe.size
    by_cases hlt : k < s.size
    ·cases hp : plnB (s[k].toNat)
     ·by_cases h37 : s[k] = 37
      ·have b37 : ((s[k].toNat : Int) == 37) = true := by rw [h37]; rfl
       have b37n : ((s[k].toNat : Int) != 37) = false := by rw [h37]; rfl
       by_cases h3 : s.size < k + 3
       ·have HN := zh (unw_step_bad hlt HA.out h37 (esc_short h3))
        have HP := zh hp; clear hp h37 HA
        go_wp2_with (go_at_call 93; refine (refPlain_any _ _).mono ?_; rintro e w' ⟨rfl, rfl⟩; rw [HP.out])
        go_ret2
        exact ⟨by rw [HN.out]; rfl, hbe⟩
       ·have hk1 : k + 1 < s.size := by omega
        have hk2 : k + 2 < s.size := by omega
        have HEL := zh (esc_long (s := s) (k := k) (by omega))
        have HB := zh (fun h => unw_step_bad hlt HA.out h37 h)
        have HY := zh (fun v h => unw_step_esc (v := v) hlt HA.out h37 h)
        have hl0 := hexV_le s[k + 1]
        have hl1 := hexV_le s[k + 2]
        have HV := zh (show escV s[k + 1] s[k + 2] = if hexV s[k + 1] = 16 ∨ hexV s[k + 2] = 16 then none else if plnB ((16 * hexV s[k + 1] + hexV s[k + 2] : Nat) : Int) then none else some (UInt8.ofNat (16 * hexV s[k + 1] + hexV s[k + 2])) from rfl)
        have HP := zh hp; clear hp h37 HA
        have q1 : IntKind.i64.wrap ((k : Int) + 1) = (k : Int) + 1 := IntWalk.i64_in _ (by omega)
        have q2 : IntKind.i64.wrap ((k : Int) + 2) = (k : Int) + 2 := IntWalk.i64_in _ (by omega)
        have q3 : (0 : Int) ≤ (k : Int) + 1 := by omega
        have q4 : (0 : Int) ≤ (k : Int) + 2 := by omega
        have q5 : ((k : Int) + 1).toNat = k + 1 := by omega
        have q6 : ((k : Int) + 2).toNat = k + 2 := by omega
        have q7 : (k : Int) + 1 < (s.size : Int) := by omega
        have q8 : (k : Int) + 2 < (s.size : Int) := by omega
        go_wp2_with (go_at_call 93; refine (refPlain_any _ _).mono ?_; rintro e w' ⟨rfl, rfl⟩; rw [HP.out])
        go_quiet ((go_at_call 109; exact quietD (value_any _ _)))
        generalize s[k + 1] = b1 at *
        generalize s[k + 2] = b2 at *
        clear q1 q2 q3 q4 q5 q6 q7 q8
        generalize hexV b1 = x at *
        generalize hexV b2 = y at *
        generalize escD (s.data.toList.drop (k + 1)) = ed at *
        generalize escV b1 b2 = ev at *
        generalize hwq : wr.drewN _ = wq
        have hownq : Hid (wq.ownsRow w.heap.size 5 1 u4 acc.length (Lib.byteCells acc)) := by show World.ownsRow _ _ _ _ _ _ _; rw [← hwq]; exact hown.out
        have hbq : Below w.heap.size w wq := by rw [← hwq]; exact below_drewN hbe _
        have hbsq := hbq.size
        clear hwq hown hbe hbs
        by_cases hx : x = 16
        ·have HN : Hid (r = none) := HB.out (by rw [HEL.out, HV.out, if_pos (.inl hx)])
         have bx : ((x : Int) == 16) = true := beq_iff_eq.2 (by omega)
         clear hx
         go_wp2_with fail
         go_ret2
         exact ⟨by rw [HN.out]; rfl, hbq⟩
        ·have bx : ((x : Int) == 16) = false := beq_eq_false_iff_ne.2 (by omega)
         by_cases hy : y = 16
         ·have HN : Hid (r = none) := HB.out (by rw [HEL.out, HV.out, if_pos (.inr hy)])
          have by_ : ((y : Int) == 16) = true := beq_iff_eq.2 (by omega)
          clear hy hx
          go_wp2_with fail
          go_ret2
          exact ⟨by rw [HN.out]; rfl, hbq⟩
         ·have by_ : ((y : Int) == 16) = false := beq_eq_false_iff_ne.2 (by omega)
          have hcast : ((16 * x + y : Nat) : Int) = 16 * (x : Int) + (y : Int) := by omega
          have hlt2 : 16 * x + y < 256 := by omega
          have HV2 : Hid (ed = if plnB (16 * (x : Int) + (y : Int)) then none else some (UInt8.ofNat (16 * x + y))) := by
           show _ = _; rw [HEL.out, HV.out, if_neg (fun h => h.elim hx hy), hcast]
          have hv : ((UInt8.ofNat (16 * x + y)).toNat : Int) = 16 * (x : Int) + (y : Int) := by
           rw [UInt8.toNat_ofNat_of_lt' (by exact hlt2)]; omega
          have HVV := zh hv
          have hx15 : x ≤ 15 := by omega
          have hy15 : y ≤ 15 := by omega
          clear hcast hx hy hv
          cases hp2 : plnB (16 * (x : Int) + (y : Int))
          ·rw [hp2] at HV2
           obtain ⟨_, hn⟩ := HY.out (UInt8.ofNat (16 * x + y)) (by rw [HV2.out]; rfl)
           have HN := zh hn
           have HP2 := zh hp2; clear hp2 hn
           generalize UInt8.ofNat (16 * x + y) = c at *
           go_wp2_with (first
            | (go_at_call 93; refine (refPlain_any _ _).mono ?_; rintro e w' ⟨rfl, rfl⟩; rw [HP2.out])
            | (at_builtin; refine wpList_append_own _ rfl (.tmp 63) (.tmp 69) 22 rfl w.heap.size 5 i0 (.int .u8 0) 1 1 Tryz.underlying22 HI0.out HZ0.out HZ1.out HZ2.out rfl (by decide) _ _ _ rfl (hownq.out.alloc _) ⟨wq.heap.size, 0, none⟩ 1 1 [.int .u8 (16 * (x : Int) + (y : Int))] rfl rfl (cell_one_new _ _ _) (by intro u hu; simp at hu; subst hu; rfl) (by unfold maxLen; omega) (by omega) (by simp; omega) ?_; intro v' w1 hown1 hg1 _; have HO1 := zh hown1; clear hown1))
           go_roundw
           case rel =>
            refine ⟨k + 3, acc ++ [c], by omega, by go_num, by simp; omega, HN.out, ?_, (hbq.alloc hbsq _).grown hg1 (by simp; omega) (own_base hownq.out)⟩
            have := HO1.out
            rw [← HVV.out] at this
            show World.ownsRow _ _ _ _ _ _ _
            simpa [Lib.byteCells_append, Lib.byteCells, Nat.add_assoc] using this
           case measure => simp [intOf]; omega
          ·rw [hp2] at HV2
           have HN : Hid (r = none) := HB.out (by rw [HV2.out]; rfl)
           have HP2 := zh hp2; clear hp2
           go_wp2_with (go_at_call 93; refine (refPlain_any _ _).mono ?_; rintro e w' ⟨rfl, rfl⟩; rw [HP2.out])
           go_ret2
           exact ⟨by rw [HN.out]; rfl, hbq⟩
      ·have b37 : ((s[k].toNat : Int) != 37) = true := by
        rw [bne_iff_ne]; intro h; exact h37 (UInt8.toNat_inj.1 (by show s[k].toNat = 37; omega))
       have HN := zh (unw_step_other hlt HA.out hp h37)
       have HP := zh hp; clear hp h37 HA
       go_wp2_with (go_at_call 93; refine (refPlain_any _ _).mono ?_; rintro e w' ⟨rfl, rfl⟩; rw [HP.out])
       go_ret2
       exact ⟨by rw [HN.out]; rfl, hbe⟩
     ·have HN := zh (unw_step_plain hlt HA.out hp)
      have HP := zh hp; clear hp HA
      go_wp2_with (first
       | (go_at_call 93; refine (refPlain_any _ _).mono ?_; rintro e w' ⟨rfl, rfl⟩; rw [HP.out])
       | (at_builtin; refine wpList_append_own _ rfl (.tmp 22) (.tmp 26) 22 rfl w.heap.size 5 i0 (.int .u8 0) 1 1 Tryz.underlying22 HI0.out HZ0.out HZ1.out HZ2.out rfl (by decide) _ _ _ rfl (hown.out.alloc _) ⟨wr.heap.size, 0, none⟩ 1 1 [.int .u8 (s[k].toNat : Int)] rfl rfl (cell_one_new _ _ _) (by intro u hu; simp at hu; subst hu; rfl) (by unfold maxLen; omega) (by omega) (by simp; omega) ?_; intro v' w1 hown1 hg1 _; have HO1 := zh hown1; clear hown1))
      go_roundw
      case rel =>
       refine ⟨k + 1, acc ++ [s[k]], by omega, by go_num, by simp; omega, HN.out, ?_, (hbe.alloc hbs _).grown hg1 (by simp; omega) (own_base hown.out)⟩
       have := HO1.out
       show World.ownsRow _ _ _ _ _ _ _
       simpa [Lib.byteCells_append, Lib.byteCells, Nat.add_assoc] using this
      case measure => simp [intOf]; omega
    ·obtain rfl : k = s.size := by omega
     have HN := zh (unw_end HA.out)
     have hcv := run_string_own hown.out
     clear HA
     go_wp2_with fail
     go_ret2
     exact ⟨by rw [HN.out]; rfl, hbe⟩
theorem RUnwS_any (s : ByteArray) (w : World) (hs : s.size ≤ 1099511627776) :
 Calls Tryz.prog 72 #[.string s] w fun e w' => (match unwS s with | some x => e = .returned (.tuple #[.string x, .bool true]) | none => e = .returned (.tuple #[.string ⟨#[]⟩, .bool false])) ∧ Below w.heap.size w w' :=
 (refUnword_any s w hs).mono fun e w' h => by
  unfold UnwRes at h
  unfold unwS
  cases hu : unword s.data.toList with
  | none => rw [hu] at h; exact h
  | some l => rw [hu] at h; exact h
theorem take_ext (l : List UInt8) (k : Nat) : (⟨(l.take k).toArray⟩ : ByteArray) = (⟨l.toArray⟩ : ByteArray).extract 0 k := by
 apply ByteArray.ext
 apply Array.ext'
 rw [ByteArray.data_extract, Array.toList_extract, List.extract_eq_take_drop]
 simp
theorem refDecode_any (sp : Option Addr) (n cap : Nat) (l : List UInt8) (w : World) (hs : BSrc w w.heap.size sp n cap l) :
 Calls Tryz.prog 32 #[.slice sp n cap] w (DecRes w (decC ⟨l.toArray⟩)) := by
 have hlen : (⟨l.toArray⟩ : ByteArray).size = n := by rw [Lib.size_eq]; exact hs.len
 by_cases hbig : 262144 < n
 ·have hd : decide ((n : Int) > 262144) = true := by simp; omega
  have HR : Hid (decC ⟨l.toArray⟩ = (3, [])) := by show _ = _; unfold decC; rw [if_pos (by omega)]
  clear hbig hlen
  go_enter Tryz.func32, Tryz.ntmps32
  go_wp2_with fail
  go_ret2
  exact decRes_no HR.out rfl (Below.refl _ _)
 have hd : decide ((n : Int) > 262144) = false := by simp; omega
 have HR0 : Hid (decC ⟨l.toArray⟩ = match rdoc ⟨l.toArray⟩ with | none => (2, []) | some L => if chk L = 0 then (0, L) else (2, [])) := by show _ = _; unfold decC; rw [if_neg (by omega)]; cases rdoc ⟨l.toArray⟩ <;> rfl
 by_cases h0 : n = 0
 ·have hl : l = [] := List.eq_nil_of_length_eq_zero (by rw [hs.len]; exact h0)
  subst h0 hl
  have HR : Hid (decC ⟨([] : List UInt8).toArray⟩ = (0, [])) := by show _ = _; rw [HR0.out]; rfl
  clear hs hbig
  go_enter Tryz.func32, Tryz.ntmps32
  go_wp2_with fail
  go_ret2
  exact decRes_no HR.out rfl (Below.refl _ _)
 have hnb : n ≤ 262144 := by omega
 have e0 : ((n : Int) == 0) = false := by simp; omega
 obtain ⟨bb, off, rfl, hbb, hcap, hc⟩ := hs.cells (by omega)
 have hll := hs.len
 have hlt1 : n - 1 < l.length := by omega
 have c1 := hc (n - 1) hlt1
 have q0 : (0 : Int) ≤ (n : Int) - 1 := by omega
 have q1 : (n : Int) - 1 < (n : Int) := by omega
 have q2 : ((n : Int) - 1).toNat = n - 1 := by omega
 have q3 : (n : Int) - 1 ≤ (cap : Int) := by omega
 have hend : endN ⟨l.toArray⟩ = decide (l[n - 1] = 10) := by
  unfold endN
  rw [decide_eq_decide]
  show l.getLast? = some 10 ↔ _
  rw [List.getLast?_eq_getElem?, hll, List.getElem?_eq_getElem hlt1]; simp
 have hne : (⟨l.toArray⟩ : ByteArray).data.toList ≠ [] := by show l ≠ []; intro h; rw [h] at hll; exact h0 hll.symm
 by_cases hlast : l[n - 1] = 10
 ·have t1 : ((l[n - 1].toNat : Int) != 10) = false := by rw [hlast]; rfl
  have hsrc : BSrc w w.heap.size (some ⟨bb, off, none⟩) (n - 1) cap (l.take (n - 1)) := ⟨by rw [List.length_take]; omega, fun _ => ⟨bb, off, rfl, hbb, by omega, fun j hj => by
   rw [List.length_take] at hj
   rw [hc j (by omega)]; simp⟩⟩
  have hcv := run_conv_src (c2 := cap) hsrc
  rw [take_ext] at hcv
  obtain ⟨T, hT⟩ : ∃ T : ByteArray, (⟨l.toArray⟩ : ByteArray).extract 0 (n - 1) = T := ⟨_, rfl⟩
  rw [hT] at hcv
  have htz : T.size ≤ 10000000 := by rw [← hT, ByteArray.size_extract]; omega
  have hrd : rdoc ⟨l.toArray⟩ = unlL (pcs 10 T) := by unfold rdoc; rw [if_neg hne, if_pos (by rw [hend, hlast]; rfl), hlen, hT]
  have HEN : Hid (∀ L, rdoc ⟨l.toArray⟩ = some L → (enc L).1 = chk L) := fun L h => rdoc_enc h (by omega)
  have HRD := zh hrd
  have HS := zh (fun w => split_anyS T 10 w htz)
  have hpl := pcs_len 10 T
  have hpc := pcs_cnt 10 T
  obtain ⟨n1, hn1⟩ : ∃ n1, Lib.countB T (oneB 10) + 1 = n1 := ⟨_, rfl⟩
  have hn1b : n1 ≤ 10000001 := by omega
  have HPZ : Hid (∀ x ∈ pcs 10 T, x.size ≤ 10000000) := fun x hx => Nat.le_trans (pcs_size 10 T x hx) htz
  rw [hn1] at HS hpl
  have HPL := zh hpl
  have HW1 : Hid (∀ w1, w1 = w.alloc (.cells ((pcs 10 T).map Value.string).toArray 9) → Below w.heap.size w w1 ∧ w.heap.size < w1.heap.size ∧ ∀ j (hj : j < (pcs 10 T).length), w1.cell? ⟨w.heap.size, j, none⟩ = some (.string (pcs 10 T)[j])) := by
   rintro w1 rfl
   refine ⟨below_allocD _ _, by simp, fun j hj => ?_⟩
   rw [cell_of_row _ w.heap.size j _ _ (0, 0) (heap_alloc_new w _)]
   simp [hj]
  clear hT htz hrd hend hne hlen hs hll hsrc hc hbig hpc hn1 hpl
  go_enter Tryz.func32, Tryz.ntmps32
  go_wp2_with fail
  refine (HS.out _).mono ?_
  rintro e w1 ⟨rfl, hw⟩
  obtain ⟨hb1, hg1, hrow⟩ := HW1.out w1 hw
  have HB1 := zh hb1; have HROW := zh hrow
  clear hw hb1 hrow HW1 hcv c1 q0 q1 q2 q3 HS t1
  go_wp2_with fail
  have HB0 := zh (Below.refl w1.heap.size w1)
  go_loopw [5, 6] (fun v i wr => ∃ (k : Nat) (done : List Ln) (sp : Option Addr) (cap : Nat), k ≤ n1 ∧ i = .int .i64 k ∧ Hid (k = done.length) ∧ v = .slice sp k cap ∧ Hid (unlL (pcs 10 T) = (unlL ((pcs 10 T).drop k)).map (wordsOf done ++ ·)) ∧ Hid (wr.ownsRow w1.heap.size 27 1 (.slice sp k cap) k (done.map Ln.val)) ∧ Hid (∀ q ∈ done, LnOwn wr w1.heap.size q) ∧ Hid (Below w1.heap.size w1 wr)) (fun _ i _ => n1 - (intOf i).toNat)
  case atStart => exact ⟨0, [], none, 0, Nat.zero_le _, rfl, rfl, rfl, by show _ = _; simp [wordsOf], World.ownsRow_nil _ _ _ _, (fun q hq => by cases hq), HB0.out⟩
  case round =>
   clear HB0
   obtain ⟨k, done, sp2, cap2, hk, rfl, HK, rfl, HRX, hown, hea, hbe⟩ := hrel
   obtain ⟨wx, hwx⟩ : ∃ wx, wx = wr := ⟨_, rfl⟩
   subst hwx
   have hbs := hbe.out.size
   by_cases hlt : k < n1
   ·have hd1 : decide ((k : Int) < (n1 : Int)) = true := by simp; omega
    have p1 : (0 : Int) ≤ (k : Int) := by omega
    have p2 : (k : Int) < (n1 : Int) := by omega
    have hlw : k < (pcs 10 T).length := by rw [HPL.out]; exact hlt
    have c1 := (hbe.out.cell (p := ⟨w.heap.size, k, none⟩) hg1).trans (HROW.out k hlw)
    have hdr : (pcs 10 T).drop k = (pcs 10 T)[k] :: (pcs 10 T).drop (k + 1) := List.drop_eq_getElem_cons hlw
    have hxz := HPZ.out _ (List.getElem_mem hlw)
    obtain ⟨x, hx⟩ : ∃ x, (pcs 10 T)[k] = x := ⟨_, rfl⟩
    rw [hx] at c1 hdr hxz
    have HDR := zh hdr
    have HSX := zh (fun w => split_anyS x 32 w hxz)
    have hpl := pcs_len 32 x
    have hpc := pcs_cnt 32 x
    have hpz := pcs_size 32 x
    obtain ⟨n2, hn2⟩ : ∃ n2, Lib.countB x (oneB 32) + 1 = n2 := ⟨_, rfl⟩
    have hn2b : n2 ≤ 10000001 := by omega
    rw [hn2] at HSX hpl
    have HPL2 := zh hpl
    have HPZ2 : Hid (∀ y ∈ pcs 32 x, y.size ≤ 1099511627776) := fun y hy => Nat.le_trans (hpz y hy) (by omega)
    have HWP : Hid (∀ wp, wp = wx.alloc (.cells ((pcs 32 x).map Value.string).toArray 9) → Below wx.heap.size wx wp ∧ wx.heap.size < wp.heap.size ∧ ∀ j (hj : j < (pcs 32 x).length), wp.cell? ⟨wx.heap.size, j, none⟩ = some (.string (pcs 32 x)[j])) := by
     rintro wp rfl
     refine ⟨below_allocD _ _, by simp, fun j hj => ?_⟩
     rw [cell_of_row _ wx.heap.size j _ _ (0, 0) (heap_alloc_new wx _)]
     simp [hj]
    clear hx hdr hxz hpc hpz hn2 hpl hlw
    go_wp2_with fail
    refine (HSX.out _).mono ?_
    rintro e wp ⟨rfl, hw⟩
    obtain ⟨hbp, hgp, hrow⟩ := HWP.out wp hw
    have HBP := zh hbp; have HROW2 := zh hrow
    have HWN := zh (own_belowD hown.out hbp)
    have HEA : Hid (∀ q ∈ done, LnOwn wp w1.heap.size q) := fun q hq => own_belowD (hea.out q hq) hbp
    have HBE := zh (hbe.out.trans (hbp.mono hbs))
    clear hw hbp hrow HWP HSX c1 hown hea hbe hbs
    have hwp1 : w1.heap.size ≤ wp.heap.size := HBE.out.size
    go_wp2_with fail
    have HB0 := zh (Below.refl wp.heap.size wp)
    go_loopw [8, 9] (fun v i wr => ∃ (j : Nat) (dw : List ByteArray) (sp : Option Addr) (cap : Nat), j ≤ n2 ∧ i = .int .i64 j ∧ Hid (j = dw.length) ∧ v = .slice sp j cap ∧ Hid (unwsL (pcs 32 x) = (unwsL ((pcs 32 x).drop j)).map (dw ++ ·)) ∧ Hid (wr.ownsRow wp.heap.size 9 1 (.slice sp j cap) j (dw.map Value.string)) ∧ Hid (Below wp.heap.size wp wr)) (fun _ i _ => n2 - (intOf i).toNat)
    case atStart => exact ⟨0, [], none, 0, Nat.zero_le _, rfl, rfl, rfl, by show _ = _; simp, World.ownsRow_nil _ _ _ _, HB0.out⟩
    case round =>
     clear HB0
     obtain ⟨j, dw, sp3, cap3, hj, rfl, HJ, rfl, HRW, hown, hbe⟩ := hrel
     have hbs := hbe.out.size
     by_cases hlt2 : j < n2
     ·have hd2 : decide ((j : Int) < (n2 : Int)) = true := by simp; omega
      have p3 : (0 : Int) ≤ (j : Int) := by omega
      have p4 : (j : Int) < (n2 : Int) := by omega
      have hlw : j < (pcs 32 x).length := by rw [HPL2.out]; exact hlt2
      have c2 := (hbe.out.cell (p := ⟨wx.heap.size, j, none⟩) hgp).trans (HROW2.out j hlw)
      have hdr : (pcs 32 x).drop j = (pcs 32 x)[j] :: (pcs 32 x).drop (j + 1) := List.drop_eq_getElem_cons hlw
      have hc := fun w => RUnwS_any (pcs 32 x)[j] w (HPZ2.out _ (List.getElem_mem hlw))
      obtain ⟨y, hy⟩ : ∃ y, (pcs 32 x)[j] = y := ⟨_, rfl⟩
      rw [hy] at c2 hdr hc
      clear hy hlw
      cases hu : unwS y with
      | none =>
        have HX : Hid (unwsL (pcs 32 x) = none) := by show _ = _; rw [HRW.out, hdr, unwsL_none hu]; rfl
        have HX2 : Hid (decC ⟨l.toArray⟩ = (2, [])) := by
         show _ = _
         rw [HR0.out, HRD.out, HRX.out, HDR.out, unlL_none HX.out]; rfl
        rw [hu] at hc
        have HC := zh hc
        clear hc hu hdr
        go_wp2_with fail
        refine (HC.out _).mono ?_
        rintro e w6 ⟨rfl, b6⟩
        have B6 := zh (HBE.out.trans ((hbe.out.trans (b6.mono hbs)).mono hwp1))
        clear b6
        go_wp2_with fail
        go_ret2
        exact decRes_no HX2.out rfl (HB1.out.trans (B6.out.mono HB1.out.size))
      | some z =>
        have HX : Hid (unwsL (pcs 32 x) = (unwsL ((pcs 32 x).drop (j + 1))).map ((dw ++ [z]) ++ ·)) := by
         show _ = _
         rw [HRW.out, hdr, unwsL_some hu, Option.map_map]
         congr 1
         funext u
         simp
        rw [hu] at hc
        have HC := zh hc
        clear hc hu hdr
        go_wp2_with fail
        refine (HC.out _).mono ?_
        rintro e w6 ⟨rfl, b6⟩
        have B6 := zh (hbe.out.trans (b6.mono hbs))
        have hz6 := B6.out.size
        have hown6 := zh (own_belowD hown.out b6)
        clear b6 c2
        go_wp2_with (first
         | (at_builtin; refine wpList_append_str rfl (.tmp 61) (.tmp 63) 27 9 rfl Tryz.underlying27 infoStrS wp.heap.size _ dw j rfl HJ.out (hown6.out.alloc _) w6.heap.size z rfl (by simp) (by omega) (by simp; omega) ?_; intro sp5 cap5 w5 hown5 hg5))
        have hbe5 := (B6.out.alloc hz6 (.cells #[.string z] 9)).grown hg5 (by simp; omega) (own_baseD hown6.out)
        go_roundw
        case rel => exact ⟨j + 1, dw ++ [z], sp5, cap5, by omega, by go_num, by show _ = _; rw [List.length_append, ← HJ.out]; rfl, rfl, HX, hown5, hbe5⟩
        case measure => simp [intOf]; omega
     ·obtain rfl : n2 = j := by omega
      have hd2 : decide ((n2 : Int) < (n2 : Int)) = false := by simp
      have HX : Hid (unwsL (pcs 32 x) = some dw) := by
       show _ = _
       rw [HRW.out, List.drop_eq_nil_of_le (by rw [HPL2.out]; exact Nat.le_refl _)]; simp [unwsL]
      have HX2 : Hid (unlL (pcs 10 T) = (unlL ((pcs 10 T).drop (k + 1))).map (wordsOf (done ++ [(⟨sp3, n2, cap3, dw⟩ : Ln)]) ++ ·)) := by
       show _ = _
       rw [HRX.out, HDR.out, unlL_some HX.out, Option.map_map]
       congr 1
       funext u
       simp [wordsOf]
      have HOL : Hid (LnOwn wr w1.heap.size ⟨sp3, n2, cap3, dw⟩) := own_monoD hown.out hwp1
      have hown6 := zh (own_belowD HWN.out hbe.out)
      have HEA6 : Hid (∀ q ∈ done, LnOwn wr w1.heap.size q) := fun q hq => own_belowD (HEA.out q hq) hbe.out
      have B6 := zh (HBE.out.trans (hbe.out.mono hwp1))
      have hz6 := B6.out.size
      clear HX hown hbe HRW
      go_wp2_with (first
       | (at_builtin; refine wpList_append_ln rfl (.tmp 65) (.tmp 67) 59 27 rfl Tryz.underlying59 infoLn w1.heap.size _ done k rfl HK.out (hown6.out.alloc _) wr.heap.size (⟨sp3, n2, cap3, dw⟩ : Ln) rfl (by simp [Ln.val]) (by omega) (by simp; omega) ?_; intro sp5 cap5 w5 hown5 hg5))
      have hbe5 := (B6.out.alloc hz6 (.cells #[.slice sp3 n2 cap3] 27)).grown hg5 (by simp; omega) (own_baseD hown6.out)
      have HEA5 : Hid (∀ q ∈ done ++ [(⟨sp3, n2, cap3, dw⟩ : Ln)], LnOwn w5 w1.heap.size q) := by
       intro q hq
       have hq6 : LnOwn wr w1.heap.size q := by
        rcases List.mem_append.1 hq with h | h
        ·exact HEA6.out q h
        ·rw [List.mem_singleton.1 h]; exact HOL.out
       exact World.ownsRow.kept (World.ownsRow.alloc hq6 _) hg5 (own_apart (w := wr) hq6 hown6.out (by decide))
      go_roundw
      case rel => exact ⟨k + 1, done ++ [(⟨sp3, n2, cap3, dw⟩ : Ln)], sp5, cap5, by omega, by go_num, by show _ = _; rw [List.length_append, ← HK.out]; rfl, rfl, HX2, hown5, HEA5, hbe5⟩
      case measure => simp [intOf]; omega
   ·obtain rfl : n1 = k := by omega
    have hd1 : decide ((n1 : Int) < (n1 : Int)) = false := by simp
    have hrd : rdoc ⟨l.toArray⟩ = some (wordsOf done) := by
     rw [HRD.out, HRX.out, List.drop_eq_nil_of_le (by rw [HPL.out]; exact Nat.le_refl _)]; simp [unlL]
    have h1 := hown.out
    have h2 := HK.out
    rw [h2] at h1
    have hE := refEncode_any sp2 done.length cap2 done wx (lines_ownD h1 hea.out) (own_le h1) (fun q hq => own_le (hea.out q hq))
    rw [← h2] at hE
    have hcode := HEN.out _ hrd
    have HR2 : Hid (decC ⟨l.toArray⟩ = if chk (wordsOf done) = 0 then (0, wordsOf done) else (2, [])) := by show _ = _; rw [HR0.out, hrd]
    have hE2 : Calls Tryz.prog 25 #[.slice sp2 n1 cap2] wx fun e w' => ∃ v, e = .returned (.tuple #[v, .int .i64 (chk (wordsOf done) : Int)]) ∧ Below wx.heap.size wx w' := hE.mono fun e w' ⟨v, he, _, hb⟩ => ⟨v, by rw [he, hcode], hb⟩
    have HE2 := zh hE2
    obtain ⟨cc, hcc⟩ : ∃ cc, chk (wordsOf done) = cc := ⟨_, rfl⟩
    rw [hcc] at HE2 HR2
    have HBW := zh (HB1.out.trans (hbe.out.mono HB1.out.size))
    clear hE hE2 hcode hrd h1 h2 hcc
    by_cases hc0 : cc = 0
    ·have t2 : ((cc : Int) != 0) = false := by rw [bne_eq_false_iff_eq]; omega
     rw [if_pos hc0] at HR2
     clear hc0
     go_wp2_with fail
     refine HE2.out.mono ?_
     rintro e w9 ⟨v9, rfl, b9⟩
     have B9 := zh b9
     clear b9
     go_wp2_with fail
     go_ret2
     rw [HR2.out]
     have h1 := own_monoD (own_belowD hown.out B9.out) HB1.out.size
     have h3 := HK.out
     rw [h3] at h1
     refine ⟨sp2, cap2, done, rfl, by rw [← h3]; rfl, h1, fun q hq => own_monoD (own_belowD (hea.out q hq) B9.out) HB1.out.size, HBW.out.trans (B9.out.mono HBW.out.size)⟩
    ·have t2 : ((cc : Int) != 0) = true := by rw [bne_iff_ne]; omega
     rw [if_neg hc0] at HR2
     clear hc0
     go_wp2_with fail
     refine HE2.out.mono ?_
     rintro e w9 ⟨v9, rfl, b9⟩
     have B9 := zh b9
     clear b9
     go_wp2_with fail
     go_ret2
     exact decRes_no HR2.out rfl (HBW.out.trans (B9.out.mono HBW.out.size))
 ·have t1 : ((l[n - 1].toNat : Int) != 10) = true := by
   rw [bne_iff_ne]; intro e; apply hlast; apply UInt8.toNat_inj.1; show l[n - 1].toNat = 10; omega
  have HR : Hid (decC ⟨l.toArray⟩ = (2, [])) := by
   show _ = _
   rw [HR0.out]; unfold rdoc
   rw [if_neg hne, if_neg (by rw [hend, decide_eq_false hlast]; simp)]
  clear hend hne hlen hs hll hc hbig
  go_enter Tryz.func32, Tryz.ntmps32
  go_wp2_with fail
  go_ret2
  exact decRes_no HR.out rfl (Below.refl _ _)
theorem ret_intH {k : IntKind} {a b : Int} (h : a = b) : Ending.returned (.int k a) = .returned (.int k b) := by rw [h]
theorem refValue_any (c : UInt8) (w : World) :
 Calls Tryz.prog 130 #[.int .u8 (c.toNat : Int)] w fun e w' => e = .returned (.int .i64 (hexv c : Int)) ∧ w = w' := by
 obtain ⟨n, hn⟩ : ∃ n, c.toNat = n := ⟨_, rfl⟩
 have hv : hexv c = if 48 ≤ n ∧ n ≤ 57 then n - 48 else if 97 ≤ n ∧ n ≤ 102 then n - 87 else 16 := by unfold hexv; rw [hn]
 have hlt : n < 256 := by rw [← hn]; exact UInt8.toNat_lt _
 rw [hn]
 have HV := zh hv; clear hv hn
 generalize hexv c = v at *
 by_cases h1 : 48 ≤ n
 ·by_cases h2 : n ≤ 57
  ·have e1 : decide ((n : Int) ≥ 48) = true := by simp; omega
   have e2 : decide ((n : Int) ≤ 57) = true := by simp; omega
   go_enter Tryz.func130, Tryz.ntmps130
   go_wp2
   go_ret
   exact ⟨ret_intH (by rw [HV.out, if_pos ⟨h1, h2⟩]; omega), rfl⟩
  ·have e1 : decide ((n : Int) ≥ 48) = true := by simp; omega
   have e2 : decide ((n : Int) ≤ 57) = false := by simp; omega
   by_cases h3 : 97 ≤ n
   ·have e3 : decide ((n : Int) ≥ 97) = true := by simp; omega
    by_cases h4 : n ≤ 102
    ·have e4 : decide ((n : Int) ≤ 102) = true := by simp; omega
     go_enter Tryz.func130, Tryz.ntmps130
     go_wp2
     go_ret
     exact ⟨ret_intH (by rw [HV.out, if_neg (by omega), if_pos ⟨h3, h4⟩]; omega), rfl⟩
    ·have e4 : decide ((n : Int) ≤ 102) = false := by simp; omega
     go_enter Tryz.func130, Tryz.ntmps130
     go_wp2
     go_ret
     exact ⟨ret_intH (by rw [HV.out, if_neg (by omega), if_neg (by omega)]; rfl), rfl⟩
   ·have e3 : decide ((n : Int) ≥ 97) = false := by simp; omega
    go_enter Tryz.func130, Tryz.ntmps130
    go_wp2
    go_ret
    exact ⟨ret_intH (by rw [HV.out, if_neg (by omega), if_neg (by omega)]; rfl), rfl⟩
 ·have e1 : decide ((n : Int) ≥ 48) = false := by simp; omega
  have e3 : decide ((n : Int) ≥ 97) = false := by simp; omega
  go_enter Tryz.func130, Tryz.ntmps130
  go_wp2
  go_ret
  exact ⟨ret_intH (by rw [HV.out, if_neg (by omega), if_neg (by omega)]; rfl), rfl⟩
def UnhRes (w : World) (l : List UInt8) (n : Nat) (e : Ending) (w' : World) : Prop :=
 ∃ sp cap, e = .returned (.tuple #[.slice sp (if pok l n = true then n else 0) cap, .bool (pok l n)]) ∧ Src w' w'.heap.size sp (if pok l n = true then n else 0) cap (if pok l n = true then hbs l n else []) ∧ Below w.heap.size w w' ∧ ∀ a, sp = some a → w.heap.size ≤ a.block
theorem hbs_byt0 {l : List UInt8} {n : Nat} (h : ∀ i, i < n → hexv (l.getD (2 * i) 0) < 16 ∧ hexv (l.getD (2 * i + 1) 0) < 16) : Byt (hbs l n) := fun x hx => by
 unfold hbs at hx
 obtain ⟨i, hi, rfl⟩ := List.mem_map.1 hx
 have := h i (by simpa using hi)
 unfold hby; omega
theorem hok_at0 {l : List UInt8} {n : Nat} (h : hok l n = true) (i : Nat) (hi : i < n) : hexv (l.getD (2 * i) 0) < 16 ∧ hexv (l.getD (2 * i + 1) 0) < 16 := by
 unfold hok at h
 have := (List.all_eq_true.1 h) i (by simpa using hi)
 unfold hok1 at this
 simpa using this
theorem src_nil (w : World) : Src w w.heap.size none 0 0 [] := ⟨rfl, (fun x hx => by cases hx), fun h => absurd h (by omega)⟩
theorem refUnhex_any (s : ByteArray) (n : Nat) (w : World) (hn : n ≤ 64) :
 Calls Tryz.prog 110 #[.string s, .int .i64 (n : Int)] w (UnhRes w s.data.toList n) := by
 by_cases hsz : s.size = 2 * n
 ·have HPK : Hid (pok s.data.toList n = hok s.data.toList n) := by show _ = _; unfold pok; rw [← Lib.size_eq, decide_eq_true hsz]; rfl
  have ht : ((s.size : Int) != 2 * (n : Int)) = false := by rw [bne_eq_false_iff_eq]; omega
  go_enter Tryz.func110, Tryz.ntmps110
  go_wp2_with fail
  go_loopw [6, 7] (fun v i wr => ∃ (k N : Nat) (sp' : Option Addr) (cap' : Nat), k ≤ n ∧ i = .int .i64 k ∧ Hid (N = k) ∧ N ≤ 64 ∧ v = .slice sp' N cap' ∧ Hid (hok s.data.toList k = true) ∧ Hid (wr.ownsRow w.heap.size 5 1 (.slice sp' N cap') N ((hbs s.data.toList k).map (Value.int .u8))) ∧ Hid (Below w.heap.size w wr)) (fun _ i _ => n - (intOf i).toNat)
  case atStart => exact ⟨0, 0, none, 0, by omega, rfl, rfl, by omega, rfl, rfl, World.ownsRow_nil _ _ _ _, Below.refl _ _⟩
  case round =>
   obtain ⟨k, N, sp', cap', hk, rfl, hN, hNb, rfl, hok0, hown, hbe⟩ := hrel
   have hwz := hbe.out.size
   by_cases hlt : k < n
   ·have hd : decide ((k : Int) < (n : Int)) = true := by simp; omega
    have p0 : 2 * k < s.size := by omega
    have p1 : 2 * k + 1 < s.size := by omega
    have p2 : (0 : Int) ≤ (k : Int) := by omega
    have p4 : (0 : Int) ≤ 2 * (k : Int) := by omega
    have p5 : 2 * (k : Int) < (s.size : Int) := by omega
    have p6 : (0 : Int) ≤ 2 * (k : Int) + 1 := by omega
    have p7 : 2 * (k : Int) + 1 < (s.size : Int) := by omega
    have p8 : (2 * (k : Int)).toNat = 2 * k := by omega
    have p9 : (2 * (k : Int) + 1).toNat = 2 * k + 1 := by omega
    have q1 : IntKind.i64.wrap (2 * (k : Int)) = 2 * (k : Int) := IntWalk.i64_in _ (by omega)
    have q2 : IntKind.i64.wrap (2 * (k : Int) + 1) = 2 * (k : Int) + 1 := IntWalk.i64_in _ (by omega)
    have g0 := getD_data s (2 * k) p0
    have g1 := getD_data s (2 * k + 1) p1
    have hl0 := hexv_le s[2 * k]
    have hl1 := hexv_le s[2 * k + 1]
    obtain ⟨x, hx⟩ : ∃ x, hexv s[2 * k] = x := ⟨_, rfl⟩
    obtain ⟨z, hz⟩ : ∃ z, hexv s[2 * k + 1] = z := ⟨_, rfl⟩
    have HO1 : Hid (hok1 s.data.toList k = (decide (x < 16) && decide (z < 16))) := by show _ = _; unfold hok1; rw [g0, g1, hx, hz]
    have HBY : Hid (hby s.data.toList k = ((16 * x + z : Nat) : Int)) := by show _ = _; unfold hby; rw [g0, g1, hx, hz]
    have HC0 := zh (fun w => refValue_any s[2 * k] w)
    have HC1 := zh (fun w => refValue_any s[2 * k + 1] w)
    rw [hx] at HC0 hl0
    rw [hz] at HC1 hl1
    have HSUC := zh (hok_succ s.data.toList k)
    have HBS := zh (hbs_succ s.data.toList k)
    have HLN : Hid (N = (hbs s.data.toList k).length) := by show _ = _; rw [hbs_length]; exact hN.out
    clear g0 g1 hx hz
    by_cases hbad : x = 16 ∨ z = 16
    ·have HF : Hid (pok s.data.toList n = false) := by show _ = _; rw [HPK.out, hok_bad (k := k) (by rw [HO1.out]; rcases hbad with h | h <;> simp [h]) hlt]
     have e1 : (((x : Int) == 16) || ((z : Int) == 16)) = true := by rcases hbad with h | h <;> simp [h]
     have hcs : ((x : Int) == 16) = true ∨ (((x : Int) == 16) = false ∧ ((z : Int) == 16) = true) := by
      by_cases h : x = 16
      ·left; simp [h]
      ·right
       rcases hbad with h2 | h2
       ·exact absurd h2 h
       ·exact ⟨by simp; omega, by simp [h2]⟩
     clear hbad HO1 HBY HSUC e1
     rcases hcs with e1 | ⟨e1, e2⟩
     all_goals
      go_wp2_with fail
      go_region_held3 (fun _ => True) (trivial) (first
       | (go_at_call 130; (with_reducible refine (HC0.out _).mono ?_); rintro e w5 ⟨rfl, rfl⟩)
       | (go_at_call 130; (with_reducible refine (HC1.out _).mono ?_); rintro e w5 ⟨rfl, rfl⟩))
      all_goals
       go_wp2_with fail
       go_ret2
       refine ⟨none, 0, ?_, ?_, hbe.out.drew, fun a h => by cases h⟩
       ·rw [HF.out]; rfl
       ·rw [HF.out]; exact src_nil _
    ·have hx16 : x < 16 := by omega
     have hz16 : z < 16 := by omega
     have e1 : ((x : Int) == 16) = false := by simp; omega
     have e2 : ((z : Int) == 16) = false := by simp; omega
     have HOK : Hid (hok s.data.toList (k + 1) = true) := by show _ = _; rw [HSUC.out, hok0.out, HO1.out, decide_eq_true hx16, decide_eq_true hz16]; rfl
     obtain ⟨m, hm⟩ : ∃ m, 16 * x + z = m := ⟨_, rfl⟩
     rw [hm] at HBY
     have hm256 : m < 256 := by omega
     have r1 : 16 * (x : Int) + (z : Int) = (m : Int) := by omega
     have r2 : ((m : Nat) : Int) % 256 = (m : Int) := by omega
     clear HO1 HSUC hbad hm
     go_wp2_with fail
     go_region_held3 (fun _ => True) (trivial) (first
      | (go_at_call 130; (with_reducible refine (HC0.out _).mono ?_); rintro e w5 ⟨rfl, rfl⟩)
      | (go_at_call 130; (with_reducible refine (HC1.out _).mono ?_); rintro e w5 ⟨rfl, rfl⟩))
     all_goals
      go_wp2_with (at_builtin; refine wpList_append_byte rfl (.tmp 37) (.tmp 43) 22 5 rfl Tryz.underlying22 Tryz.info5a w.heap.size _ (hbs s.data.toList k) N rfl HLN.out (hown.out.drew.alloc _) wr.heap.size (m : Int) rfl (by simp) (by omega) (by simp; omega) ?_; intro sp5 cap5 w5 hown5 hg5)
      have hbe5 := (hbe.out.drew.alloc hwz (.cells #[.int .u8 (m : Int)] 5)).grown hg5 (by simp; omega) (own_baseC hown.out)
      go_roundw
      case rel =>
       refine ⟨k + 1, N + 1, sp5, cap5, by omega, by go_num, by show _ = _; have := hN.out; omega, by have := hN.out; omega, rfl, HOK, ?_, hbe5⟩
       have := hown5.out
       show World.ownsRow _ _ _ _ _ _ _
       rw [HBS.out, HBY.out]; exact this
      case measure => simp [intOf]; omega
   ·obtain rfl : k = n := by omega
    have hd : decide ((k : Int) < (k : Int)) = false := by simp
    have HT : Hid (pok s.data.toList k = true) := by show _ = _; rw [HPK.out, hok0.out]
    have hN2 := hN.out
    have hln : (hbs s.data.toList k).length = N := by rw [hbs_length]; exact hN2.symm
    have ho : wr.ownsRow w.heap.size 5 1 (.slice sp' N cap') (hbs s.data.toList k).length ((hbs s.data.toList k).map (Value.int .u8)) := by rw [hln]; exact hown.out
    obtain ⟨sp7, cap7, e7, hsrc, _⟩ := src_of_own ho (hbs_byt0 (fun i hi => hok_at0 hok0.out i hi))
    rw [hln] at e7 hsrc
    injection e7 with e1 e2 e3
    subst e1 e3
    rw [hN2] at hsrc
    have HSRC := zh hsrc
    have HBS : Hid (∀ a, sp' = some a → w.heap.size ≤ a.block) := fun a ha => own_baseC ho a.block (by rw [ha]; rfl)
    have HN := zh hN2
    clear hsrc ho hln hN2 hN hown hsz
    go_wp2_with fail
    go_ret2
    refine ⟨sp', cap', ?_, ?_, hbe.out, HBS.out⟩
    ·rw [HT.out, if_pos rfl, ← HN.out]; rfl
    ·rw [HT.out, if_pos rfl, if_pos rfl]; exact HSRC.out
 ·have ht : ((s.size : Int) != 2 * (n : Int)) = true := by rw [bne_iff_ne]; omega
  have hz : pok s.data.toList n = false := by unfold pok; rw [← Lib.size_eq, decide_eq_false hsz]; rfl
  unfold UnhRes
  rw [hz]
  clear hz hsz
  go_enter Tryz.func110, Tryz.ntmps110
  go_wp2
  go_ret2
  exact ⟨none, 0, rfl, src_nil _, Below.refl _ _, fun a h => by cases h⟩
end Go.Proofs.YtecllfbadciaoaaGreatDoor
