/-
  The walk of the statement DocumentBack: it returns true for every list of lines and all bytes.
-/
import Derived.Test.YtmafefdchglpbaaDoorDecG
import Derived.Test.YtmafefdchglpbaaDoorBckN
import Derived.Test.YtmafefdchglpbaaDoorDocL
namespace Go.Proofs.YtmafefdchglpbaaDoor
open Go.RowKit

theorem decC_ok {S : ByteArray} {L : List (List ByteArray)} (h : decC S = (0, L)) : rdoc S = some L ∧ chk L = 0 ∧ S.size ≤ 262144 := by
  unfold decC at h
  by_cases hb : 262144 < S.size
  · rw [if_pos hb] at h; cases h
  · rw [if_neg hb] at h
    cases hr : rdoc S with
    | none => rw [hr] at h; cases h
    | some L' =>
      rw [hr] at h
      by_cases hk : chk L' = 0
      · have h' : (if chk L' = 0 then (0, L') else (2, [])) = (0, L) := h
        rw [if_pos hk] at h'
        have e : L' = L := by injection h'
        subst e
        exact ⟨rfl, hk, by omega⟩
      · have h' : (if chk L' = 0 then ((0, L') : Nat × List (List ByteArray)) else (2, [])) = (0, L) := h
        rw [if_neg hk] at h'
        cases h'
theorem decC_no {S : ByteArray} {c : Nat} {L : List (List ByteArray)} (h : decC S = (c, L)) (hc : c ≠ 0) : L = [] := by
  unfold decC at h
  by_cases hb : 262144 < S.size
  · rw [if_pos hb] at h; injection h with h1 h2; exact h2.symm
  · rw [if_neg hb] at h
    cases hr : rdoc S with
    | none => rw [hr] at h; injection h with h1 h2; exact h2.symm
    | some L' =>
      rw [hr] at h
      have h' : (if chk L' = 0 then ((0, L') : Nat × List (List ByteArray)) else (2, [])) = (c, L) := h
      by_cases hk : chk L' = 0
      · rw [if_pos hk] at h'; injection h' with h1 h2; exact absurd h1.symm hc
      · rw [if_neg hk] at h'; injection h' with h1 h2; exact h2.symm
theorem enc_back {S : ByteArray} {L : List (List ByteArray)} (h : decC S = (0, L)) : enc L = (0, S.data.toList) := by
  obtain ⟨h1, h2, h3⟩ := decC_ok h
  have h4 := rdoc_back h1
  unfold enc
  rw [if_pos h2, h4, if_neg (by rw [← Lib.size_eq]; omega)]
theorem dec_back {wl : List (List ByteArray)} (h : (enc wl).1 = 0) : decC ⟨((enc wl).2).toArray⟩ = (0, wl) := by
  unfold enc at h ⊢
  by_cases hk : chk wl = 0
  · rw [if_pos hk] at h ⊢
    by_cases hl : 262144 < (encL wl).length
    · rw [if_pos hl] at h; cases h
    · rw [if_neg hl]
      have hr := rdoc_enc_back hk
      unfold decC
      rw [if_neg (by show ¬ 262144 < (encL wl).toArray.size; rw [List.size_toArray]; exact hl)]
      show (match rdoc ⟨(encL wl).toArray⟩ with | none => (2, []) | some L => if chk L = 0 then (0, L) else (2, [])) = (0, wl)
      rw [hr]
      show (if chk wl = 0 then ((0, wl) : Nat × List (List ByteArray)) else (2, [])) = (0, wl)
      rw [if_pos hk]
  · rw [if_neg hk] at h; exact absurd h hk
theorem bsrc_own {w : World} {base : Nat} {sp : Option Addr} {cap : Nat} {X : List UInt8} (h : w.ownsRow base 5 1 (.slice sp X.length cap) X.length (Lib.byteCells X)) : BSrc w w.heap.size sp X.length cap X := by
  refine ⟨rfl, fun hn => ?_⟩
  obtain ⟨_, ⟨_, h2⟩ | ⟨g, c, u, e, _, hg, hle, _, hs, ht⟩⟩ := h
  · omega
  · injection e with e1 e2 e3
    subst e3
    refine ⟨g, 0, e1, (Array.getElem?_eq_some_iff.1 hg).1, hle, fun j hj => ?_⟩
    rw [cell_of_row w g (0 + j) u _ _ hg, Nat.zero_add]
    have h5 : (u.toList.take (X.length * 1))[j]? = some (.int .u8 (X[j].toNat : Int)) := by rw [ht]; simp [Lib.byteCells, hj]
    rw [List.getElem?_take, if_pos (by omega)] at h5
    simpa using h5
theorem bsrc_mem {w w' : World} {sp : Option Addr} {n cap : Nat} {l : List UInt8} (h : BSrc w w.heap.size sp n cap l) (hb : Below w.heap.size w w') : BSrc w' w'.heap.size sp n cap l :=
  ⟨h.len, fun hn => by obtain ⟨bb, off, e, h1, h2, h3⟩ := (h.below hb (Nat.le_refl _)).cells hn; exact ⟨bb, off, e, Nat.lt_of_lt_of_le h1 hb.size, h2, h3⟩⟩
set_option maxRecDepth 100000 in
set_option maxHeartbeats 2000000 in
theorem docBack_any (pa : Option Addr) (np ncap : Nat) (ls : List Ln) (sp : Option Addr) (n cap : Nat) (l : List UInt8) (w : World) (hp : LinesIn w w.heap.size pa np ls) (hmax : np ≤ 9223372036854775807) (hmax2 : ∀ q ∈ ls, q.n ≤ 9223372036854775807) (hsz : ∀ q ∈ ls, ∀ s ∈ q.l, s.size ≤ 9223372036854775807) (hs : BSrc w w.heap.size sp n cap l) :
    Calls Tryd.prog 5 #[.slice pa np ncap, .slice sp n cap] w fun e w' => e = .returned (.bool true) ∧ Below w.heap.size w w' := by
  have hnp := hp.len
  subst hnp
  have HL := Lib.hid (light_any pa ls.length ncap ls w hp hmax hmax2 hsz)
  have HE := Lib.hid (Encode_any pa ls.length ncap ls w hp hmax hmax2)
  have HP := Lib.hid hp; have HM := Lib.hid hmax; have HM2 := Lib.hid hmax2; have HSB := Lib.hid hs
  obtain ⟨S, hS⟩ : ∃ S : ByteArray, ⟨l.toArray⟩ = S := ⟨_, rfl⟩
  have HSL : Hid (l = S.data.toList) := by show _ = _; rw [← hS]
  have HDB : Hid (∀ w1, Below w.heap.size w w1 → Calls Tryd.prog 18 #[.slice sp n cap] w1 (DecRes w1 (decC S))) := fun w1 hb => by rw [← hS]; exact Decode_any sp n cap l w1 (bsrc_mem hs hb)
  have HDX : Hid ((enc (wordsOf ls)).1 = 0 → ∀ (w1 : World) (sp1 : Option Addr) (cap1 : Nat), w1.ownsRow w.heap.size 5 1 (.slice sp1 (enc (wordsOf ls)).2.length cap1) (enc (wordsOf ls)).2.length (Lib.byteCells (enc (wordsOf ls)).2) → Calls Tryd.prog 18 #[.slice sp1 (enc (wordsOf ls)).2.length cap1] w1 (DecRes w1 (0, wordsOf ls))) := fun h0 w1 sp1 cap1 ho => by
    have := Decode_any sp1 _ cap1 _ w1 (bsrc_own ho)
    rwa [dec_back h0] at this
  have HRS : Hid (∀ w1, Below w.heap.size w w1 → (convert 34 9 (.slice sp n cap)).run Tryd.prog w1 = .ok (.string S) w1) := fun w1 hb => by rw [← hS]; exact run_conv_src (bsrc_mem hs hb)
  obtain ⟨⟨c, L⟩, hr⟩ : ∃ r, decC S = r := ⟨_, rfl⟩
  rw [hr] at HDB
  have HOK : Hid (c = 0 → enc L = (0, S.data.toList)) := fun hc => by subst hc; exact enc_back hr
  have HNO : Hid (c ≠ 0 → L = []) := fun hc => decC_no hr hc
  clear hp hmax hmax2 hsz hs hr hS
  by_cases hbig : 100000 < n
  · have hd : decide ((n : Int) > 100000) = true := by simp; omega
    clear hbig
    go_enter Tryd.func5, Tryd.ntmps5
    go_wp2_with fail
    refine HL.out.mono ?_
    rintro e w' ⟨⟨b, rfl, _⟩, rfl⟩
    cases b
    all_goals
      go_wp2_with fail
      go_ret
      exact ⟨rfl, Below.refl _ _⟩
  have hd : decide ((n : Int) > 100000) = false := by simp; omega
  clear hbig
  obtain ⟨k, hk⟩ : ∃ k, (enc (wordsOf ls)).1 = k := ⟨_, rfl⟩
  obtain ⟨X, hX⟩ : ∃ X, (enc (wordsOf ls)).2 = X := ⟨_, rfl⟩
  unfold EncRes at HE
  rw [hk, hX] at HE HDX
  clear hk hX
  go_enter Tryd.func5, Tryd.ntmps5
  go_wp2_with fail
  refine HL.out.mono ?_
  rintro e w' ⟨⟨b, rfl, _⟩, rfl⟩
  cases b
  · go_wp2_with fail
    go_ret
    exact ⟨rfl, Below.refl _ _⟩
  · go_wp2_with fail
    refine HE.out.mono ?_
    rintro e w1 ⟨v1, rfl, hown1, hb1⟩
    obtain ⟨sp1, cap1, rfl⟩ := own_shapeD hown1.out
    have HO1 := hown1; have HB1 := Lib.hid hb1
    clear hown1 hb1
    by_cases hk0 : k = 0
    focus
      have t0 : ((k : Int) == 0) = true := by rw [beq_iff_eq]; omega
      have HDX2 := Lib.hid (HDX.out hk0 w1 sp1 cap1 HO1.out)
      clear hk0
      go_wp2_with fail
      refine HDX2.out.mono ?_
      rintro e w2 ⟨sp2, cap2, la, hwa, rfl, o2, e2, b2⟩
      have HB2 := Lib.hid (HB1.out.trans (b2.mono HB1.out.size))
      have HS : Hid (Calls Tryd.prog 21 #[.slice sp2 la.length cap2, .slice pa ls.length ncap] w2 fun e w' => e = .returned (.bool true) ∧ ∃ m, w' = w2.drewN m) :=
        sameLines_any sp2 pa cap2 ncap w2.heap.size la ls w2 (lines_own o2 e2) ((HP.out.below HB2.out (Nat.le_refl _)).more HB2.out.size) hwa (own_le o2) (fun q hq => own_le (e2 q hq))
      clear o2 e2 b2 hwa
      go_wp2_with fail
      refine HS.out.mono ?_
      rintro e w3 ⟨rfl, m, rfl⟩
      have HB3 := Lib.hid (below_drewN HB2.out m)
      go_wp2_with fail
      have HBZ := HB3
    rotate_left
    focus
      have t0 : ((k : Int) == 0) = false := by rw [beq_eq_false_iff_ne]; omega
      have HBZ := HB1
      clear hk0
      go_wp2_with fail
    all_goals
      refine (HDB.out _ HBZ.out).mono ?_
      rintro e w4 ⟨sp4, cap4, lb, hwb, rfl, o4, e4, b4⟩
      have HB4 := Lib.hid (HBZ.out.trans (b4.mono HBZ.out.size))
      by_cases hc : c = 0
      · have t1 : ((c : Int) != 0) = false := by rw [bne_eq_false_iff_eq]; omega
        have hE4 := Encode_any sp4 lb.length cap4 lb w4 (lines_own o4 e4) (own_le o4) (fun q hq => own_le (e4 q hq))
        unfold EncRes at hE4
        rw [hwb, HOK.out hc] at hE4
        have HE4 := Lib.hid hE4
        clear hE4 o4 e4 b4 hwb hc
        go_wp2_with fail
        refine HE4.out.mono ?_
        rintro e w5 ⟨v5, rfl, hown5, b5⟩
        have HB5 := Lib.hid (HB4.out.trans (b5.mono HB4.out.size))
        go_wp2_with fail
        refine (awake_any w5).mono ?_
        rintro e w6 ⟨rfl, b6⟩
        have HB6 := Lib.hid (HB5.out.trans (b6.mono HB5.out.size))
        have hs1 := run_string_own (own_below hown5.out b6)
        have hs2 := HRS.out w6 HB6.out
        have hs1' : (convert 34 9 v5).run Tryd.prog w6 = .ok (.string S) w6 := by rw [hs1]
        clear hown5 b5 b6 hs1
        go_wp2_with fail
        go_ret
        exact ⟨ret_bool (by simp), HB6.out⟩
      · have t1 : ((c : Int) != 0) = true := by rw [bne_iff_ne]; omega
        have hlb : lb = [] := by
          rw [HNO.out hc] at hwb
          unfold wordsOf at hwb
          simpa using hwb
        subst hlb
        clear hc o4 e4 b4 hwb
        go_wp2_with fail
        refine (awake_any w4).mono ?_
        rintro e w6 ⟨rfl, b6⟩
        go_wp2_with fail
        go_ret
        exact ⟨ret_bool (by simp), HB4.out.trans (b6.mono HB4.out.size)⟩
end Go.Proofs.YtmafefdchglpbaaDoor
