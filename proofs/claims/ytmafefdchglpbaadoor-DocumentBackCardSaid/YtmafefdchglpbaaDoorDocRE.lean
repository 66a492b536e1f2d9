/-
  The walk of the reference's Encode: it answers as document.Encode does (condition: the lines read as lists of words).
-/
import Derived.Test.YtmafefdchglpbaaDoorDocF
import Derived.Test.YtmafefdchglpbaaDoorDocR
namespace Go.Proofs.YtmafefdchglpbaaDoor
open Go.RowKit

/-- the first j words of a line, blanks between them -/
def jn (l : List ByteArray) (j : Nat) : List UInt8 := (body (l.take j)).dropLast
theorem jn_zero (l : List ByteArray) : jn l 0 = [] := rfl
theorem jn_first {l : List ByteArray} (h : 0 < l.length) : jn l 1 = wordL l[0].data.toList := by
  unfold jn; rw [body_succ l 0 h]; simp [body]
theorem jn_next {l : List ByteArray} {j : Nat} (h0 : j ≠ 0) (hj : j < l.length) : jn l (j + 1) = (jn l j ++ [32]) ++ wordL l[j].data.toList := by
  have hp : 0 < (l.take j).length := by rw [List.length_take]; omega
  unfold jn
  rw [body_succ l j hj, ← body_last hp, ← List.append_assoc, List.dropLast_concat]
theorem body_le {l : List ByteArray} (hs : ∀ s ∈ l, s.size ≤ 32768) : (body l).length ≤ 98306 * l.length := by
  induction l with
  | nil => simp [body]
  | cons a t ih =>
    have h1 := ih (fun s hs' => hs s (List.mem_cons_of_mem _ hs'))
    have h2 := hs a (List.mem_cons_self ..)
    have h3 := wordL_le a.data.toList
    rw [← Lib.size_eq] at h3
    unfold body at h1 ⊢
    simp only [List.flatMap_cons, List.length_append, List.length_cons, List.length_nil]
    omega
theorem jn_le (l : List ByteArray) (j : Nat) (hs : ∀ s ∈ l.take j, s.size ≤ 32768) : (jn l j).length ≤ 98306 * j := by
  have h1 := body_le hs
  have h2 : (l.take j).length ≤ j := List.length_take_le _ _
  unfold jn; rw [List.length_dropLast]; omega
theorem not_lng {l : List ByteArray} (h : l.any lng = false) : ∀ s ∈ l, s.size ≤ 32768 := fun s hs => by
  rcases Nat.lt_or_ge 32768 s.size with hlt | hge
  · have : l.any lng = true := List.any_eq_true.2 ⟨s, hs, by unfold lng; exact decide_eq_true hlt⟩
    rw [h] at this; cases this
  · exact hge
theorem lineL_jn {l : List ByteArray} : lineL l = jn l l.length ++ [10] := by
  unfold lineL jn; rw [List.take_of_length_le (Nat.le_refl _)]
theorem chk_of_bad {wl : List (List ByteArray)} {r : Nat} (h : wl.length ≤ 1000) (hb : firstBad wl = r) : chk wl = r := by unfold chk; rw [if_neg (by omega), hb]
theorem firstBad_step {wl : List (List ByteArray)} {k : Nat} {l : List ByteArray} (hk : wl[k]? = some l) (h : firstBad (wl.take k) = 0) :
    (chkLine l = 0 → firstBad (wl.take (k + 1)) = 0) ∧ (chkLine l ≠ 0 → firstBad wl = chkLine l) := by
  obtain ⟨hlt, rfl⟩ := List.getElem?_eq_some_iff.1 hk
  exact firstBad_take wl k hlt h

theorem grown_of_below2 {w w' : World} {row : Option Nat} (h : Below w.heap.size w w') : w.grownBy w' row := ⟨h.os, h.tape, h.output, h.size, fun k hk _ => h.block k hk⟩
theorem own_below {w w' : World} {base e size : Nat} {v : Value} {n : Nat} {xs : List Value} (h : w.ownsRow base e size v n xs) (hb : Below w.heap.size w w') : w'.ownsRow base e size v n xs :=
  h.kept (row := none) (grown_of_below2 hb) (by cases hv : v.ownBlock <;> simp)
set_option maxRecDepth 100000 in
set_option maxHeartbeats 1000000 in
theorem refEncode_any (pa : Option Addr) (np ncap : Nat) (ls : List Ln) (w : World) (hp : LinesIn w w.heap.size pa np ls) (hmax : np ≤ 9223372036854775807) (hmax2 : ∀ q ∈ ls, q.n ≤ 9223372036854775807) :
    Calls Tryd.prog 45 #[.slice pa np ncap] w (EncRes w (wordsOf ls)) := by
  have HP := Lib.hid hp; have HM := Lib.hid hmax2; clear hp hmax2
  obtain ⟨i0, hi0, hz0, hz1, hz2⟩ := info_parts Tryd.info5
  have HI0 := Lib.hid hi0; have HZ0 := Lib.hid hz0; have HZ1 := Lib.hid hz1; have HZ2 := Lib.hid hz2
  clear hi0 hz0 hz1 hz2
  have HLEN := Lib.hid HP.out.len
  have HL2 := Lib.hid (wordsOf_length ls)
  have HGET := Lib.hid (wordsOf_get? ls)
  generalize hwl : wordsOf ls = wl at *
  clear hwl
  by_cases hbig : 1000 < np
  · have HE : Hid (enc wl = (3, [])) := by
      have hc : chk wl = 3 := by unfold chk; rw [if_pos (by rw [HL2.out, HLEN.out]; exact hbig)]
      show _ = _; rw [enc_bad (by rw [hc]; decide), hc]
    go_enter Tryd.func45, Tryd.ntmps45
    go_wp2_with fail
    go_ret2
    exact ⟨.slice none 0 0, by rw [HE.out]; rfl, by rw [HE.out]; exact World.ownsRow_nil _ _ _ _, Below.refl _ _⟩
  · have HW1 : Hid (wl.length ≤ 1000) := by show _ ≤ _; rw [HL2.out, HLEN.out]; omega
    go_enter Tryd.func45, Tryd.ntmps45
    go_wp2_with fail
    go_loopg [4, 5] np (fun g b i wx => ∃ k : Nat, k + g = np ∧ i = .int .i64 k ∧ Hid (firstBad (wl.take k) = 0) ∧ ∃ sp cap, b = .slice sp (encL (wl.take k)).length cap ∧ Hid (wx.ownsRow w.heap.size 5 1 (.slice sp (encL (wl.take k)).length cap) (encL (wl.take k)).length (Lib.byteCells (encL (wl.take k)))) ∧ (encL (wl.take k)).length ≤ 16777216 * k ∧ Below w.heap.size w wx)
    case atStart => exact ⟨0, by omega, rfl, by show _ = _; simp [firstBad], none, 0, by simp [encL], by show World.ownsRow _ _ _ _ _ _ _; simp [encL]; exact World.ownsRow_nil _ _ _ _, by simp [encL], Below.refl _ _⟩
    case round =>
      obtain ⟨k, hg, rfl, HB, sp, cap, rfl, hown, hle, hbe⟩ := hrel
      have hbs := hbe.size
      by_cases hlt : k < np
      · have hk2 : k < ls.length := by have := HLEN.out; omega
        obtain ⟨pb, po, rfl, hpb, hcell⟩ := HP.out.cells (by omega)
        have HC : Hid (w.cell? ⟨pb, po + k, none⟩ = some (.slice ls[k].sp ls[k].n ls[k].cap)) := hcell k hk2
        have HE := Lib.hid (HP.out.each _ (List.getElem_mem hk2))
        have HLK := Lib.hid (HGET.out k hk2)
        have hmx := HM.out _ (List.getElem_mem hk2)
        clear hcell
        generalize ls[k].sp = lsp at *
        generalize ls[k].n = n at *
        generalize ls[k].cap = lcap at *
        generalize ls[k].l = l at *
        obtain rfl := HE.out.len
        have HNX := Lib.hid (encL_next HLK.out)
        have HST := Lib.hid (firstBad_step HLK.out HB.out)
        have ck : wr.cell? ⟨pb, po + k, none⟩ = some (.slice lsp l.length lcap) := (hbe.cell (p := ⟨pb, po + k, none⟩) hpb).trans HC.out
        by_cases h0 : l.length = 0
        · have h0b : ((l.length : Int) == 0) = true := beq_iff_eq.2 (by omega)
          have HEN : Hid (enc wl = (1, [])) := by
            have hc := chk_of_bad HW1.out (HST.out.2 (by rw [chkLine_zero h0]; decide))
            rw [chkLine_zero h0] at hc
            show _ = _; rw [enc_bad (by rw [hc]; decide), hc]
          have H0 := Lib.hid h0; clear h0
          generalize encL (wl.take k) = X at *
          go_wp2_with fail
          go_ret2
          exact ⟨.slice none 0 0, by rw [HEN.out]; rfl, by rw [HEN.out]; exact World.ownsRow_nil _ _ _ _, hbe⟩
        · have h0b : ((l.length : Int) == 0) = false := beq_eq_false_iff_ne.2 (by omega)
          by_cases h1 : 120 < l.length
          · have HEN : Hid (enc wl = (3, [])) := by
              have hc := chk_of_bad HW1.out (HST.out.2 (by rw [chkLine_wide h1]; decide))
              rw [chkLine_wide h1] at hc
              show _ = _; rw [enc_bad (by rw [hc]; decide), hc]
            generalize encL (wl.take k) = X at *
            clear h0
            go_wp2_with fail
            go_ret2
            exact ⟨.slice none 0 0, by rw [HEN.out]; rfl, by rw [HEN.out]; exact World.ownsRow_nil _ _ _ _, hbe⟩
          · have hLJ := lineL_jn (l := l)
            have HLJ := Lib.hid hLJ; clear hLJ
            generalize encL (wl.take k) = X at *
            go_wp2_with fail
            go_loopg [4, 6] l.length (fun g b i wy => ∃ j : Nat, j + g = l.length ∧ i = .int .i64 j ∧ Hid ((l.take j).any lng = false) ∧ ∃ sp cap, b = .slice sp (X ++ jn l j).length cap ∧ Hid (wy.ownsRow w.heap.size 5 1 (.slice sp (X ++ jn l j).length cap) (X ++ jn l j).length (Lib.byteCells (X ++ jn l j))) ∧ Below w.heap.size w wy)
            case atStart => exact ⟨0, by omega, rfl, by show _ = _; simp, sp, cap, by simp [jn_zero], by show World.ownsRow _ _ _ _ _ _ _; simpa [jn_zero] using hown.out, hbe⟩
            case round =>
              clear hown hbe ck hbs
              obtain ⟨j, hg2, rfl, HA, sp2, cap2, rfl, hown, hbe⟩ := hrel
              have hbs := hbe.size
              have ck : wr.cell? ⟨pb, po + k, none⟩ = some (.slice lsp l.length lcap) := (hbe.cell (p := ⟨pb, po + k, none⟩) hpb).trans HC.out
              have hjl := jn_le l j (not_lng HA.out)
              by_cases hj : j < l.length
              · obtain ⟨sb, so, rfl, hsb, hsc⟩ := HE.out.cells (by omega)
                have HCW : Hid (w.cell? ⟨sb, so + j, none⟩ = some (.string l[j])) := hsc j hj
                have cw : wr.cell? ⟨sb, so + j, none⟩ = some (.string l[j]) := (hbe.cell (p := ⟨sb, so + j, none⟩) hsb).trans HCW.out
                clear hsc
                by_cases hw : 32768 < (l[j]).size
                · have HEN : Hid (enc wl = (3, [])) := by
                    have hb := chkLine_long h0 (any_of l j hj (by unfold lng; exact decide_eq_true hw))
                    have hc := chk_of_bad HW1.out (HST.out.2 (by rw [hb]; decide))
                    rw [hb] at hc
                    show _ = _; rw [enc_bad (by rw [hc]; decide), hc]
                  generalize l[j] = s at *
                  have hd1 : decide ((s.size : Int) > 32768) = true := decide_eq_true (by omega)
                  have hd2 : decide (32768 < (s.size : Int)) = true := decide_eq_true (by omega)
                  clear h0 hjl
                  go_wp2_with fail
                  go_ret2
                  exact ⟨.slice none 0 0, by rw [HEN.out]; rfl, by rw [HEN.out]; exact World.ownsRow_nil _ _ _ _, hbe⟩
                · have HA2 := Lib.hid (any_take_succ l j hj HA.out (by unfold lng; exact decide_eq_false hw))
                  by_cases hj0 : j = 0
                  · have HJ : Hid (X ++ jn l (j + 1) = (X ++ jn l j) ++ wordL l[j].data.toList) := by
                      subst hj0
                      show _ = _; rw [jn_first hj, jn_zero, List.append_nil]
                    have hj0' : ¬ ((0 : Int) < (j : Int)) := by omega
                    generalize l[j] = s at *
                    have hwl := wordL_le s.data.toList
                    rw [← Lib.size_eq] at hwl
                    have hy : (X ++ jn l j).length ≤ 17000000000 := by rw [List.length_append]; omega
                    have HRW := fun w => Lib.hid (refWord_any s w (by omega))
                    generalize hS : wordL s.data.toList = S at *
                    have HS := Lib.hid (show (⟨S.toArray⟩ : ByteArray).size = S.length from rfl)
                    have HSD := Lib.hid (show Lib.strCells ⟨S.toArray⟩ = Lib.byteCells S from rfl)
                    generalize (⟨S.toArray⟩ : ByteArray) = sS at *
                    have hsz : sS.size ≤ 98305 := by rw [HS.out]; omega
                    have hd1 : decide ((s.size : Int) > 32768) = false := decide_eq_false (by omega)
                    have hd2 : decide (32768 < (s.size : Int)) = false := decide_eq_false (by omega)
                    generalize X ++ jn l j = Y at *
                    clear h0 hjl hS hj0
                    go_wp2_with (first
                      | (go_at_call 69; refine (HRW _).out.mono ?_; rintro e w4 ⟨rfl, hbe4⟩; have hbs4 := hbe4.size; have hown4 := own_below hown.out hbe4)
                      | (at_builtin; refine Lib.wpList_append_own_string _ rfl (.tmp 51) (.tmp 59) 34 9 rfl w.heap.size 5 i0 Tryd.underlying34 Tryd.underlying9 HI0.out HZ0.out HZ1.out HZ2.out _ _ _ rfl hown4 _ rfl (by unfold maxLen; omega) (by omega) (by omega) ?_; intro v5 w5 hown5 hg5 _; obtain ⟨sp5, cap5, rfl⟩ := own_shape hown5; have HO5 := Lib.hid hown5; clear hown5))
                    go_roundg (l.length - (j + 1))
                    case measure => omega
                    case rel =>
                      refine ⟨j + 1, by omega, by go_num, HA2.out, sp5, cap5, ?_, ?_, (hbe.trans (hbe4.mono hbs)).grown hg5 (by omega) (own_base hown4)⟩
                      · rw [HJ.out, List.length_append, ← HS.out]
                      · rw [HJ.out]
                        have := HO5.out
                        rw [HSD.out, ← Lib.byteCells_append] at this
                        show World.ownsRow _ _ _ _ _ _ _
                        rw [List.length_append, ← HS.out]; exact this
                  · have HJ : Hid (X ++ jn l (j + 1) = ((X ++ jn l j) ++ [32]) ++ wordL l[j].data.toList) := by show _ = _; rw [jn_next hj0 hj]; simp
                    have hj0' : (0 : Int) < (j : Int) := by omega
                    generalize l[j] = s at *
                    have hwl := wordL_le s.data.toList
                    rw [← Lib.size_eq] at hwl
                    have hy : (X ++ jn l j).length ≤ 17000000000 := by rw [List.length_append]; omega
                    have HRW := fun w => Lib.hid (refWord_any s w (by omega))
                    generalize hS : wordL s.data.toList = S at *
                    have HS := Lib.hid (show (⟨S.toArray⟩ : ByteArray).size = S.length from rfl)
                    have HSD := Lib.hid (show Lib.strCells ⟨S.toArray⟩ = Lib.byteCells S from rfl)
                    generalize (⟨S.toArray⟩ : ByteArray) = sS at *
                    have hsz : sS.size ≤ 98305 := by rw [HS.out]; omega
                    have hd1 : decide ((s.size : Int) > 32768) = false := decide_eq_false (by omega)
                    have hd2 : decide (32768 < (s.size : Int)) = false := decide_eq_false (by omega)
                    generalize X ++ jn l j = Y at *
                    clear h0 hjl hS hj0
                    go_wp2_with (first
                      | (at_builtin; refine wpList_append_own _ rfl (.tmp 48) (.tmp 49) 34 rfl w.heap.size 5 i0 (.int .u8 0) 1 1 Tryd.underlying34 HI0.out HZ0.out HZ1.out HZ2.out rfl (by decide) _ _ _ rfl (hown.out.alloc _) ⟨wr.heap.size, 0, none⟩ 1 1 [.int .u8 32] rfl rfl (cell_one_new _ _ _) (by intro u hu; simp at hu; subst hu; rfl) (by unfold maxLen; omega) (by omega) (by simp; omega) ?_; intro v3 w3 hown3 hg3 _; have HO3 := Lib.hid hown3; clear hown3; have hbe3 := (hbe.alloc hbs _).grown hg3 (by simp; omega) (own_base hown.out); have hbs3 := hbe3.size; have ck3 := (hbe3.cell (p := ⟨pb, po + k, none⟩) hpb).trans HC.out; have cw3 := (hbe3.cell (p := ⟨sb, so + j, none⟩) hsb).trans HCW.out)
                      | (go_at_call 69; refine (HRW _).out.mono ?_; rintro e w4 ⟨rfl, hbe4⟩; have hbs4 := hbe4.size; have hown4 := own_below HO3.out hbe4)
                      | (at_builtin; refine Lib.wpList_append_own_string _ rfl (.tmp 51) (.tmp 59) 34 9 rfl w.heap.size 5 i0 Tryd.underlying34 Tryd.underlying9 HI0.out HZ0.out HZ1.out HZ2.out _ _ _ rfl hown4 _ rfl (by unfold maxLen; omega) (by omega) (by omega) ?_; intro v5 w5 hown5 hg5 _; obtain ⟨sp5, cap5, rfl⟩ := own_shape hown5; have HO5 := Lib.hid hown5; clear hown5))
                    go_roundg (l.length - (j + 1))
                    case measure => omega
                    case rel =>
                      refine ⟨j + 1, by omega, by go_num, HA2.out, sp5, cap5, ?_, ?_, (hbe3.trans (hbe4.mono hbs3)).grown hg5 (by omega) (own_base hown4)⟩
                      · rw [HJ.out, List.length_append, List.length_append, ← HS.out]; rfl
                      · rw [HJ.out]
                        have := HO5.out
                        rw [HSD.out] at this
                        show World.ownsRow _ _ _ _ _ _ _
                        rw [List.length_append, List.length_append, ← HS.out, Lib.byteCells_append, Lib.byteCells_append]; exact this
              · obtain rfl : j = l.length := by omega
                have HFB : Hid (firstBad (wl.take (k + 1)) = 0) := by
                  have ha := HA.out
                  rw [List.take_of_length_le (Nat.le_refl _)] at ha
                  exact HST.out.1 (chkLine_good h0 h1 ha)
                have hy : (X ++ jn l l.length).length ≤ 17000000000 := by rw [List.length_append]; omega
                have hyl : (X ++ jn l l.length).length + 1 ≤ 16777216 * (k + 1) := by rw [List.length_append]; omega
                have HEX : Hid (encL (wl.take (k + 1)) = (X ++ jn l l.length) ++ [10]) := by show _ = _; rw [HNX.out, HLJ.out, List.append_assoc]
                generalize X ++ jn l l.length = Y at *
                clear h0 hjl
                go_wp2_with (at_builtin; refine wpList_append_own _ rfl (.tmp 61) (.tmp 62) 34 rfl w.heap.size 5 i0 (.int .u8 0) 1 1 Tryd.underlying34 HI0.out HZ0.out HZ1.out HZ2.out rfl (by decide) _ _ _ rfl (hown.out.alloc _) ⟨wr.heap.size, 0, none⟩ 1 1 [.int .u8 10] rfl rfl (cell_one_new _ _ _) (by intro u hu; simp at hu; subst hu; rfl) (by unfold maxLen; omega) (by omega) (by simp; omega) ?_; intro v3 w3 hown3 hg3 _; obtain ⟨sp3, cap3, rfl⟩ := own_shape hown3; have HO3 := Lib.hid hown3; clear hown3)
                go_roundg (np - (k + 1))
                case measure => omega
                case rel =>
                  refine ⟨k + 1, by omega, by go_num, HFB.out, sp3, cap3, ?_, ?_, ?_, (hbe.alloc hbs _).grown hg3 (by simp; omega) (own_base hown.out)⟩
                  · rw [HEX.out]; simp
                  · rw [HEX.out]
                    have := HO3.out
                    show World.ownsRow _ _ _ _ _ _ _
                    simpa [Lib.byteCells_append, Lib.byteCells] using this
                  · rw [HEX.out, List.length_append]; exact hyl
      · obtain rfl : k = np := by omega
        have hall : wl.take k = wl := List.take_of_length_le (by rw [HL2.out, HLEN.out]; exact Nat.le_refl _)
        have HCK : Hid (chk wl = 0) := chk_of_bad HW1.out (by rw [← hall]; exact HB.out)
        rw [hall] at hown hle
        rw [hall]
        clear hall HB
        by_cases hlong : 262144 < (encL wl).length
        · have HE := Lib.hid (enc_much HCK.out hlong)
          have HHL := Lib.hid hlong
          obtain ⟨X, hX⟩ : ∃ X, encL wl = X := ⟨_, rfl⟩
          rw [hX] at hown hle hlong
          rw [hX]
          clear hX
          have hd1 : decide ((X.length : Int) > 262144) = true := decide_eq_true (by omega)
          have hd2 : decide (262144 < (X.length : Int)) = true := decide_eq_true (by omega)
          clear hlong hle
          go_wp2_with fail
          go_ret2
          exact ⟨.slice none 0 0, by rw [HE.out]; rfl, by rw [HE.out]; exact World.ownsRow_nil _ _ _ _, hbe⟩
        · have HE := Lib.hid (enc_good HCK.out hlong)
          obtain ⟨X, hX⟩ : ∃ X, encL wl = X := ⟨_, rfl⟩
          rw [hX] at hown hle hlong HE
          rw [hX]
          clear hX
          have hd1 : decide ((X.length : Int) > 262144) = false := decide_eq_false (by omega)
          have hd2 : decide (262144 < (X.length : Int)) = false := decide_eq_false (by omega)
          clear hlong hle
          go_wp2_with fail
          go_ret2
          exact ⟨_, by rw [HE.out]; rfl, by rw [HE.out]; exact hown, hbe⟩
end Go.Proofs.YtmafefdchglpbaaDoor
