/-
  The walk of document.Encode: the encoded form of a document, and its errors (condition: the lines read as lists of words).
-/
import Derived.Test.YtmafefdchglpbaaDoorDocE
import Derived.Laws.OwnMore
import Derived.Deep.LoopGhost
import Derived.Deep.Cut
import Derived.WalkMore
namespace Go.Proofs.YtmafefdchglpbaaDoor
open Go.RowKit

def EncRes (w : World) (ls : List (List ByteArray)) (e : Ending) (w' : World) : Prop :=
  ∃ v, e = .returned (.tuple #[v, .int .i64 ((enc ls).1 : Nat)]) ∧ Hid (w'.ownsRow w.heap.size 5 1 v (enc ls).2.length (Lib.byteCells (enc ls).2)) ∧ Below w.heap.size w w'
theorem own_shape {w : World} {base e size : Nat} {v : Value} {n : Nat} {xs : List Value} (h : w.ownsRow base e size v n xs) : ∃ sp cap, v = .slice sp n cap := by
  obtain ⟨_, ⟨rfl, rfl⟩ | ⟨g, cap, cur, rfl, _⟩⟩ := h
  · exact ⟨none, 0, rfl⟩
  · exact ⟨_, cap, rfl⟩
theorem wordsOf_get? (ls : List Ln) : ∀ (k : Nat) (hk : k < ls.length), (wordsOf ls)[k]? = some ls[k].l := fun k hk => by simp [wordsOf, List.getElem?_eq_getElem hk]
theorem encL_next {wl : List (List ByteArray)} {k : Nat} {l : List ByteArray} (h : wl[k]? = some l) : encL (wl.take (k + 1)) = encL (wl.take k) ++ lineL l := by
  obtain ⟨hk, rfl⟩ := List.getElem?_eq_some_iff.1 h
  exact encL_succ wl k hk
theorem chk_ok {wl : List (List ByteArray)} (h : chk wl = 0) : wl.length ≤ 1000 ∧ ∀ l ∈ wl, chkLine l = 0 := by
  unfold chk at h
  by_cases h1 : 1000 < wl.length
  · rw [if_pos h1] at h; cases h
  · rw [if_neg h1] at h; exact ⟨by omega, firstBad_all h⟩
theorem chk_line {wl : List (List ByteArray)} {k : Nat} {l : List ByteArray} (h : chk wl = 0) (hk : wl[k]? = some l) : 0 < l.length ∧ l.length ≤ 120 ∧ ∀ s ∈ l, s.size ≤ 32768 :=
  chkLine_ok ((chk_ok h).2 l (List.mem_of_getElem? hk))
theorem enc_bad {ls : List (List ByteArray)} (h : chk ls ≠ 0) : enc ls = (chk ls, []) := by unfold enc; rw [if_neg h]
theorem enc_much {ls : List (List ByteArray)} (h : chk ls = 0) (h2 : 262144 < (encL ls).length) : enc ls = (3, []) := by unfold enc; rw [if_pos h, if_pos h2]
theorem enc_good {ls : List (List ByteArray)} (h : chk ls = 0) (h2 : ¬ 262144 < (encL ls).length) : enc ls = (0, encL ls) := by unfold enc; rw [if_pos h, if_neg h2]

set_option maxRecDepth 100000 in
set_option maxHeartbeats 1000000 in
theorem Encode_any (pa : Option Addr) (np ncap : Nat) (ls : List Ln) (w : World) (hp : LinesIn w w.heap.size pa np ls) (hmax : np ≤ 9223372036854775807) (hmax2 : ∀ q ∈ ls, q.n ≤ 9223372036854775807) :
    Calls Tryd.prog 23 #[.slice pa np ncap] w (EncRes w (wordsOf ls)) := by
  have HCK := Lib.hid (checkLines_any pa np ncap ls w hp hmax hmax2)
  have HP := Lib.hid hp; have HM := Lib.hid hmax2; clear hp hmax2
  obtain ⟨i0, hi0, hz0, hz1, hz2⟩ := info_parts Tryd.info5
  have HI0 := Lib.hid hi0; have HZ0 := Lib.hid hz0; have HZ1 := Lib.hid hz1; have HZ2 := Lib.hid hz2
  clear hi0 hz0 hz1 hz2
  by_cases hc : chk (wordsOf ls) = 0
  · have HE1 := Lib.hid (enc_much hc)
    have HE2 := Lib.hid (enc_good hc)
    rw [hc] at HCK
    have HC := Lib.hid hc; clear hc
    have HLEN := Lib.hid HP.out.len
    have HL2 := Lib.hid (wordsOf_length ls)
    have HGET := Lib.hid (wordsOf_get? ls)
    generalize hwl : wordsOf ls = wl at *
    clear hwl
    go_enter Tryd.func23, Tryd.ntmps23
    go_wp2_with fail
    go_step3
    go_wp2_with (go_at_call 42; refine HCK.out.mono ?_; rintro e w' ⟨rfl, rfl⟩)
    go_step3
    go_wp2_with fail
    go_loopg [5, 17] np (fun g b i wx => ∃ k : Nat, k + g = np ∧ i = .int .i64 k ∧ ∃ sp cap, b = .slice sp (encL (wl.take k)).length cap ∧ Hid (wx.ownsRow w.heap.size 5 1 (.slice sp (encL (wl.take k)).length cap) (encL (wl.take k)).length (Lib.byteCells (encL (wl.take k)))) ∧ (encL (wl.take k)).length ≤ 262144 ∧ Below w.heap.size w wx)
    case atStart => exact ⟨0, by omega, rfl, none, 0, by simp [encL], by show World.ownsRow _ _ _ _ _ _ _; simp [encL]; exact World.ownsRow_nil _ _ _ _, by simp [encL], Below.refl _ _⟩
    case round =>
      obtain ⟨k, hg, rfl, sp, cap, rfl, hown, hle, hbe⟩ := hrel
      by_cases hlt : k < np
      · have hk2 : k < ls.length := by have := HLEN.out; omega
        obtain ⟨pb, po, rfl, hpb, hcell⟩ := HP.out.cells (by omega)
        have ck : wr.cell? ⟨pb, po + k, none⟩ = some (.slice ls[k].sp ls[k].n ls[k].cap) := (hbe.cell (p := ⟨pb, po + k, none⟩) hpb).trans (hcell k hk2)
        have HE := Lib.hid (HP.out.each _ (List.getElem_mem hk2))
        have HLK := Lib.hid (HGET.out k hk2)
        have hmx := HM.out _ (List.getElem_mem hk2)
        clear hcell
        generalize ls[k].sp = lsp at *
        generalize ls[k].n = n at *
        generalize ls[k].cap = lcap at *
        generalize ls[k].l = l at *
        obtain ⟨hpos, h120, hsz⟩ := chk_line HC.out HLK.out
        have HSZ := Lib.hid hsz; clear hsz
        obtain rfl := HE.out.len
        have HNX := Lib.hid (encL_next HLK.out)
        have HMO := Lib.hid (encL_mono wl (k + 1))
        generalize encL (wl.take k) = X at *
        go_wp2_with fail
        go_loopg [5, 23] l.length (fun g b i wy => ∃ j : Nat, j + g = l.length ∧ i = .int .i64 j ∧ ∃ sp cap, b = .slice sp (X ++ body (l.take j)).length cap ∧ Hid (wy.ownsRow w.heap.size 5 1 (.slice sp (X ++ body (l.take j)).length cap) (X ++ body (l.take j)).length (Lib.byteCells (X ++ body (l.take j)))) ∧ (X ++ body (l.take j)).length ≤ 262144 ∧ Below w.heap.size w wy)
        case atStart => exact ⟨0, by omega, rfl, sp, cap, by simp [body], by show World.ownsRow _ _ _ _ _ _ _; simpa [body] using hown.out, by simpa [body] using hle, hbe⟩
        case round =>
          clear hown hbe ck
          obtain ⟨j, hg2, rfl, sp2, cap2, rfl, hown, hle2, hbe⟩ := hrel
          have hbs := hbe.size
          by_cases hj : j < l.length
          · obtain ⟨sb, so, rfl, hsb, hsc⟩ := HE.out.cells (by omega)
            have cw : wr.cell? ⟨sb, so + j, none⟩ = some (.string l[j]) := (hbe.cell (p := ⟨sb, so + j, none⟩) hsb).trans (hsc j hj)
            have hs1 : l[j].size ≤ 32768 := HSZ.out _ (List.getElem_mem hj)
            have HB := Lib.hid (body_succ l j hj)
            have HBM := Lib.hid (body_mono l (j + 1))
            clear hsc
            generalize l[j] = s at *
            have hw1 := wordL_le s.data.toList
            rw [← Lib.size_eq] at hw1
            have HA : Hid (X ++ body (l.take (j + 1)) = (X ++ body (l.take j)) ++ (wordL s.data.toList ++ [32])) := by show _ = _; rw [HB.out, List.append_assoc]
            generalize X ++ body (l.take j) = Y at *
            by_cases hbig : 262144 < (Y ++ (wordL s.data.toList ++ [32])).length
            · simp only [List.length_append, List.length_cons, List.length_nil] at hbig
              go_wp2_with fail
              refine (appendWord_any w.heap.size _ Y s wr hown.out hbs (by omega)).mono ?_
              rintro e w2 ⟨v2, rfl, hown2, hbe2⟩
              have hs2 := hbe2.size
              have hzb : (262144 : Int) ≤ (((Y ++ wordL s.data.toList).length : Nat) : Int) := by rw [List.length_append]; omega
              have hzc : (((Y ++ wordL s.data.toList).length : Nat) : Int) ≤ 1048576 := by rw [List.length_append]; omega
              have HZ : Hid (Y ++ (wordL s.data.toList ++ [32]) = (Y ++ wordL s.data.toList) ++ [32]) := by show _ = _; rw [List.append_assoc]
              generalize Y ++ wordL s.data.toList = Z at *
              clear hbig hw1 hle2
              go_upto_region 12 with (at_builtin; refine wpList_append_own _ rfl (.tmp 29) (.tmp 30) 34 rfl w.heap.size 5 i0 (.int .u8 0) 1 1 Tryd.underlying34 HI0.out HZ0.out HZ1.out HZ2.out rfl (by decide) _ _ _ rfl (hown2.out.alloc _) ⟨w2.heap.size, 0, none⟩ 1 1 [.int .u8 32] rfl rfl (cell_one_new _ _ _) (by intro u hu; simp at hu; subst hu; rfl) (by unfold maxLen; omega) (by omega) (by simp; omega) ?_; intro v3 w3 hown3 hg3 _; obtain ⟨sp3, cap3, rfl⟩ := own_shape hown3; have HO3 := Lib.hid hown3; clear hown3)
              have hd1 : decide ((Z.length : Int) + 1 > 262144) = true := decide_eq_true (by omega)
              have hd2 : decide (262144 < (Z.length : Int) + 1) = true := decide_eq_true (by omega)
              have hd3 : decide (262144 ≤ (Z.length : Int)) = true := decide_eq_true (by omega)
              go_wp2
              rw [Exit.noGoto_ret]
              go_ret2
              have hfin : enc wl = (3, []) := by
                refine HE1.out ?_
                have h1 := HMO.out
                rw [HNX.out, List.length_append, lineL_length hpos] at h1
                have h2 := congrArg List.length HA.out
                rw [HZ.out] at h2
                simp only [List.length_append, List.length_cons, List.length_nil] at h2
                have h3 := HBM.out
                omega
              exact ⟨.slice none 0 0, by rw [hfin]; rfl, by rw [hfin]; exact World.ownsRow_nil _ _ _ _, (hbe.trans hbe2).alloc (by omega) _ |>.grown hg3 (by simp; omega) (own_base hown2.out)⟩
            · simp only [List.length_append, List.length_cons, List.length_nil] at hbig
              go_wp2_with fail
              refine (appendWord_any w.heap.size _ Y s wr hown.out hbs (by omega)).mono ?_
              rintro e w2 ⟨v2, rfl, hown2, hbe2⟩
              have hs2 := hbe2.size
              have hzb : (((Y ++ wordL s.data.toList).length : Nat) : Int) ≤ 262143 := by rw [List.length_append]; omega
              have HZ : Hid (Y ++ (wordL s.data.toList ++ [32]) = (Y ++ wordL s.data.toList) ++ [32]) := by show _ = _; rw [List.append_assoc]
              generalize Y ++ wordL s.data.toList = Z at *
              clear hbig hw1 hle2
              go_upto_region 12 with (at_builtin; refine wpList_append_own _ rfl (.tmp 29) (.tmp 30) 34 rfl w.heap.size 5 i0 (.int .u8 0) 1 1 Tryd.underlying34 HI0.out HZ0.out HZ1.out HZ2.out rfl (by decide) _ _ _ rfl (hown2.out.alloc _) ⟨w2.heap.size, 0, none⟩ 1 1 [.int .u8 32] rfl rfl (cell_one_new _ _ _) (by intro u hu; simp at hu; subst hu; rfl) (by unfold maxLen; omega) (by omega) (by simp; omega) ?_; intro v3 w3 hown3 hg3 _; obtain ⟨sp3, cap3, rfl⟩ := own_shape hown3; have HO3 := Lib.hid hown3; clear hown3)
              have hd1 : decide ((Z.length : Int) + 1 > 262144) = false := decide_eq_false (by omega)
              have hd2 : decide (262144 < (Z.length : Int) + 1) = false := decide_eq_false (by omega)
              have hd3 : decide (262144 ≤ (Z.length : Int)) = false := decide_eq_false (by omega)
              go_wp2
              go_roundg (l.length - (j + 1))
              case measure => omega
              case rel =>
                refine ⟨j + 1, by omega, by go_num, sp3, cap3, ?_, ?_, ?_, ?_⟩
                · rw [HA.out, HZ.out]; simp
                · rw [HA.out, HZ.out]
                  have := HO3.out
                  show World.ownsRow _ _ _ _ _ _ _
                  simpa [Lib.byteCells_append, Lib.byteCells, Nat.add_assoc] using this
                · rw [HA.out, HZ.out]; simp only [List.length_append, List.length_cons, List.length_nil]; omega
                · exact (hbe.trans hbe2).alloc (by omega) _ |>.grown hg3 (by simp; omega) (own_base hown2.out)
          · obtain rfl : j = l.length := by omega
            rw [List.take_of_length_le (Nat.le_refl _)] at hown hle2
            rw [List.take_of_length_le (Nat.le_refl _)]
            have hbp := body_pos hpos
            have hll := lineL_length hpos
            have HSL := Lib.hid (set_last (xs := X) hbp 10)
            have HLL : Hid (lineL l = (body l).dropLast ++ [10]) := rfl
            have hyl : (X ++ body l).length = X.length + (body l).length := List.length_append
            obtain ⟨m, hm⟩ : ∃ m, (X ++ body l).length = m + 1 := ⟨X.length + (body l).length - 1, by omega⟩
            have HLN : Hid ((X ++ lineL l).length = m + 1) := by show _ = _; rw [List.length_append, hll]; omega
            have HM1 : Hid (X.length + (body l).length - 1 = m) := by show _ = _; omega
            rw [hm] at hown hle2
            rw [hm]
            generalize X ++ body l = Y at *
            rcases cells_of_own (l := Y) (by rw [hm]; exact hown.out) with ⟨_, hnil⟩ | ⟨g, capg, hv, hgB, _, hcg⟩
            · rw [hnil] at hm; simp at hm
            · have hsp : sp2 = some ⟨g, 0, none⟩ := by injection hv
              subst hsp
              obtain ⟨ym, hcm⟩ : ∃ z : Int, wr.cell? ⟨g, m, none⟩ = some (.int .u8 z) := ⟨_, hcg m (by omega)⟩
              have hfm := hown.out.frozenAt m
              have HST := Lib.hid (hown.out.stored m (.int .u8 10))
              clear hv hcg hm hyl hll hbp
              go_wp2
              go_roundg (np - (k + 1))
              case measure => omega
              case rel =>
                refine ⟨k + 1, by omega, by go_num, some ⟨g, 0, none⟩, cap2, ?_, ?_, ?_, ?_⟩
                · rw [HNX.out, HLN.out]
                · rw [HNX.out, HLN.out]
                  have e : (Lib.byteCells Y).set m (.int .u8 10) = Lib.byteCells (X ++ lineL l) := by
                    rw [HLL.out, ← HSL.out, HM1.out]; simp [Lib.byteCells]
                  have := HST.out.1
                  rw [e] at this
                  exact this
                · rw [HNX.out, HLN.out]; exact hle2
                · exact hbe.setCell hgB _
      · obtain rfl : k = np := by omega
        have hall : encL (wl.take k) = encL wl := by rw [List.take_of_length_le (by rw [HL2.out, HLEN.out]; exact Nat.le_refl _)]
        rw [hall] at hown hle
        rw [hall]
        have HE := Lib.hid (HE2.out (by omega))
        clear hall
        generalize encL wl = X at *
        have hd1 : decide ((X.length : Int) > 262144) = false := decide_eq_false (by omega)
        have hd2 : decide (262144 < (X.length : Int)) = false := decide_eq_false (by omega)
        go_wp2_with fail
        rw [Exit.noGoto_ret]
        go_ret2
        exact ⟨_, by rw [HE.out]; rfl, by rw [HE.out]; exact hown, hbe⟩
  · have HE := Lib.hid (enc_bad hc)
    have hc2 : (((chk (wordsOf ls) : Nat) : Int) != 0) = true := by rw [bne_iff_ne]; omega
    generalize wordsOf ls = wl at *
    generalize chk wl = r at *
    have HC := Lib.hid hc; clear hc
    go_enter Tryd.func23, Tryd.ntmps23
    go_wp2_with (go_at_call 42; refine HCK.out.mono ?_; rintro e w' ⟨rfl, rfl⟩)
    go_step3
    go_wp2_with (go_at_call 42; refine HCK.out.mono ?_; rintro e w' ⟨rfl, rfl⟩)
    rw [Exit.noGoto_ret]
    go_ret2
    exact ⟨.slice none 0 0, by rw [HE.out]; rfl, by rw [HE.out]; exact World.ownsRow_nil _ _ _ _, Below.refl _ _⟩
end Go.Proofs.YtmafefdchglpbaaDoor
