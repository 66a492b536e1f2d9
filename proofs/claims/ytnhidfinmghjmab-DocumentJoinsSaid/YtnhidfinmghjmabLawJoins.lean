/-
  The walk of the statement DocumentJoins: it returns true for every two arguments that read as lists of lists of strings.
-/
import Derived.Test.YtnhidfinmghjmabDocK
import Derived.Test.YtnhidfinmghjmabDocL
import Derived.Laws.AppendOwnNone
import Derived.Laws.Concat
namespace Go.Proofs.Ytnhidfinmghjmab
open Go.RowKit

theorem own_belowJ {w w' : World} {base e size : Nat} {v : Value} {n : Nat} {xs : List Value} (h : w.ownsRow base e size v n xs) (hb : Below w.heap.size w w') : w'.ownsRow base e size v n xs :=
  h.kept (row := none) ⟨hb.os, hb.tape, hb.output, hb.size, fun k hk _ => hb.block k hk⟩ (by cases hv : v.ownBlock <;> simp)
theorem encL_append (a b : List (List ByteArray)) : encL (a ++ b) = encL a ++ encL b := by unfold encL; rw [List.flatMap_append]
theorem firstBad_left {a : List (List ByteArray)} (b : List (List ByteArray)) (h : firstBad a ≠ 0) : firstBad (a ++ b) ≠ 0 := by
  induction a with
  | nil => exact absurd rfl h
  | cons x t ih =>
    unfold firstBad at h
    show (if chkLine x = 0 then firstBad (t ++ b) else chkLine x) ≠ 0
    by_cases hx : chkLine x = 0
    · rw [if_pos hx] at h ⊢; exact ih h
    · rw [if_neg hx]; exact hx
theorem firstBad_right (a : List (List ByteArray)) {b : List (List ByteArray)} (h : firstBad b ≠ 0) : firstBad (a ++ b) ≠ 0 := by
  by_cases ha : firstBad a = 0
  · rw [firstBad_append a b ha]; exact h
  · exact firstBad_left b ha
theorem enc_zero {a : List (List ByteArray)} (h : (enc a).1 = 0) : a.length ≤ 1000 ∧ firstBad a = 0 ∧ (encL a).length ≤ 262144 ∧ (enc a).2 = encL a := by
  unfold enc at h ⊢
  by_cases hc : chk a = 0
  · rw [if_pos hc] at h ⊢
    by_cases hl : 262144 < (encL a).length
    · rw [if_pos hl] at h; cases h
    · rw [if_neg hl]
      unfold chk at hc
      by_cases h1 : 1000 < a.length
      · rw [if_pos h1] at hc; cases hc
      · rw [if_neg h1] at hc; exact ⟨by omega, hc, by omega, rfl⟩
  · rw [if_neg hc] at h; exact absurd h hc
theorem enc_len {a : List (List ByteArray)} (h : (enc a).1 = 0) : (enc a).2.length ≤ 262144 := by
  obtain ⟨_, _, h3, h4⟩ := enc_zero h
  rw [h4]; exact h3
theorem enc_append (a b : List (List ByteArray)) :
    ((enc a).1 ≠ 0 ∨ (enc b).1 ≠ 0 → (enc (a ++ b)).1 ≠ 0) ∧ ((enc a).1 = 0 → (enc b).1 = 0 → (enc (a ++ b)).1 ≠ 3 → (enc (a ++ b)).1 = 0 ∧ (enc (a ++ b)).2 = (enc a).2 ++ (enc b).2) := by
  constructor
  · intro h h0
    obtain ⟨h1, h2, h3, _⟩ := enc_zero h0
    rw [List.length_append] at h1
    have ha : firstBad a = 0 := by
      rcases Nat.eq_zero_or_pos (firstBad a) with e | e
      · exact e
      · exact absurd h2 (firstBad_left b (by omega))
    have hb : firstBad b = 0 := by
      rcases Nat.eq_zero_or_pos (firstBad b) with e | e
      · exact e
      · exact absurd h2 (firstBad_right a (by omega))
    rw [encL_append, List.length_append] at h3
    have ea : (enc a).1 = 0 := by
      rw [enc_good (by unfold chk; rw [if_neg (by omega), ha]) (by omega)]
    have eb : (enc b).1 = 0 := by
      rw [enc_good (by unfold chk; rw [if_neg (by omega), hb]) (by omega)]
    rcases h with h | h
    · exact h ea
    · exact h eb
  · intro ha hb h3
    obtain ⟨a1, a2, a3, a4⟩ := enc_zero ha
    obtain ⟨b1, b2, b3, b4⟩ := enc_zero hb
    by_cases h1 : 1000 < (a ++ b).length
    · exact absurd (by rw [enc_bad (by unfold chk; rw [if_pos h1]; decide)]; unfold chk; rw [if_pos h1]) h3
    · have hc : chk (a ++ b) = 0 := by unfold chk; rw [if_neg h1, firstBad_append a b a2, b2]
      by_cases hl : 262144 < (encL (a ++ b)).length
      · exact absurd (by rw [enc_much hc hl]) h3
      · rw [enc_good hc hl, a4, b4]; exact ⟨rfl, encL_append a b⟩
theorem wordsOf_append (a b : List Ln) : wordsOf (a ++ b) = wordsOf a ++ wordsOf b := by simp [wordsOf]
theorem Try.infoL : (Try.prog.info? 38).map (fun i => (i.zero, i.size, i.bytes)) = some (some (.slice none 0 0), 1, 24) := by kernel_rfl

/-- append(own, src...), both slices of lines -/
theorem wpList_append_lns {P : Program} {w : World} {ops : Array Oper} {rest : List Oper} {o : Oper} {a : Act} {Q : Exit → Act → World → Prop} (hgd : o.guard = none) (s x : Operand) (t e : TypeId)
    (ho : o.op = .call { callee := .builtin .append, args := #[s, x], argTypes := #[t, t] }) (ht : P.underlying t = some (.slice e)) (hi : (P.info? e).map (fun i => (i.zero, i.size, i.bytes)) = some (some (.slice none 0 0), 1, 24))
    (base : Nat) (v : Value) (xs : List Value) (n : Nat) (hs : a.eval s = v) (hown : w.ownsRow base e 1 v n xs)
    (pa : Option Addr) (np ncap B : Nat) (ls : List Ln) (hx : a.eval x = .slice pa np ncap) (hsrc : LinesIn w B pa np ls) (hnil : pa = none → ncap = 0)
    (hlen : n + np ≤ 1048576) (hbase : base ≤ w.heap.size)
    (h : ∀ v' w', Hid (w'.ownsRow base e 1 v' (n + np) (xs ++ ls.map Ln.val)) → w.grownBy w' v.ownBlock → wpList P ops Q rest (a.put o.dst v') w') : wpList P ops Q (o :: rest) a w := by
  obtain ⟨i0, hi0, hz0, hz1, hz2⟩ := info_parts hi
  cases pa with
  | none =>
    have hb : np = 0 := by
      by_cases h0 : 0 < np
      · obtain ⟨_, _, e, _⟩ := hsrc.cells h0; cases e
      · omega
    subst hb
    have hln : ls = [] := List.eq_nil_of_length_eq_zero hsrc.len
    subst hln
    rw [hnil rfl] at hx
    refine wpList_append_own_none hgd s x t ho base e i0 1 ht hi0 v n _ hs hown hx ?_
    exact h v w (by show World.ownsRow _ _ _ _ _ _ _; simpa using hown) (World.grownBy.refl _ _)
  | some ad =>
    refine wpList_append_own w hgd s x t ho base e i0 (.slice none 0 0) 1 24 ht hi0 hz0 hz1 hz2 rfl (by decide) v n _ hs hown ad np ncap (ls.map Ln.val) hx (by simp [hsrc.len]) ?_ (by intro u hu; obtain ⟨q, _, rfl⟩ := List.mem_map.1 hu; rfl) (by unfold maxLen; omega) (by omega) hbase ?_
    · intro j u hj
      have hjb : j < ls.length := by have := (List.getElem?_eq_some_iff.1 hj).1; simpa using this
      obtain ⟨bb, off, ead, _, hc⟩ := hsrc.cells (by have := hsrc.len; omega)
      injection ead with ead; subst ead
      rw [Addr.add_mid, hc j hjb]
      simpa [List.getElem?_eq_getElem hjb] using hj
    · intro v' w' h1 h2 _
      exact h v' w' h1 h2
/-- a literal of no elements: a new block, its value behind a name -/
theorem wpList_build0 {P : Program} {w : World} {ops : Array Oper} {rest : List Oper} {o : Oper} {a : Act} {Q : Exit → Act → World → Prop} (hgd : o.guard = none) (t e : TypeId)
    (ho : o.op = .buildSlice t 0 #[]) (hrun : ∀ w, (Instr.buildSlice t 0 #[]).run P w = .ok (.slice (some ⟨w.heap.size, 0, none⟩) 0 0) (w.alloc (.cells #[] e)))
    (h : ∀ v0 w0, Hid (v0 = .slice (some ⟨w.heap.size, 0, none⟩) 0 0) → Hid (w0 = w.alloc (.cells #[] e)) → wpList P ops Q rest (a.put o.dst v0) w0) : wpList P ops Q (o :: rest) a w := by
  refine wpList_plain hgd fun K hK => ?_
  have hk := hK _ _ (h _ _ rfl rfl)
  have hr := hrun w
  unfold Oper.wp execOp
  simp only [ho]
  simp [hr]
  exact hk
/-- what the call owns, as lines -/
theorem lines_of_own {w : World} {base e n : Nat} {v : Value} {ls : List Ln} (h : w.ownsRow base e 1 v n (ls.map Ln.val)) (he : ∀ q ∈ ls, StrsIn w w.heap.size q.sp q.n q.l) : ∃ sp cap, v = .slice sp n cap ∧ LinesIn w w.heap.size sp n ls := by
  obtain ⟨hl, h | ⟨g, cap, cur, rfl, _, hg, hle, _, hsz, htk⟩⟩ := h
  · obtain ⟨rfl, h0⟩ := h
    subst h0
    exact ⟨none, 0, rfl, ⟨by simpa using hl, fun h => absurd h (by omega), he⟩⟩
  · have hl' : ls.length = n := by simpa using hl
    refine ⟨_, cap, rfl, ⟨hl', fun hn => ⟨g, 0, rfl, (Array.getElem?_eq_some_iff.1 hg).1, fun j hj => ?_⟩, he⟩⟩
    rw [Nat.zero_add, cell_of_row w g j cur e _ hg]
    have h1 : (cur.toList.take (n * 1))[j]? = some ls[j].val := by rw [htk]; simp [List.getElem?_eq_getElem hj]
    rw [List.getElem?_take, if_pos (by omega)] at h1
    simpa using h1
theorem cat_bytes (X Y : List UInt8) : (⟨X.toArray⟩ : ByteArray) ++ ⟨Y.toArray⟩ = ⟨(X ++ Y).toArray⟩ := by
  apply ByteArray.ext
  rw [ByteArray.data_append]
  simp

set_option maxRecDepth 100000 in
set_option maxHeartbeats 1000000 in
theorem joins_any (pa : Option Addr) (np ncap : Nat) (la : List Ln) (pb : Option Addr) (nb mcap : Nat) (lb : List Ln) (w : World)
    (hp : LinesIn w w.heap.size pa np la) (hmax : np ≤ 9223372036854775807) (hmax2 : ∀ q ∈ la, q.n ≤ 9223372036854775807) (hsz : ∀ q ∈ la, ∀ s ∈ q.l, s.size ≤ 9223372036854775807) (hna : pa = none → ncap = 0)
    (hq : LinesIn w w.heap.size pb nb lb) (hmaxb : nb ≤ 9223372036854775807) (hmaxb2 : ∀ q ∈ lb, q.n ≤ 9223372036854775807) (hszb : ∀ q ∈ lb, ∀ s ∈ q.l, s.size ≤ 9223372036854775807) (hnb : pb = none → mcap = 0) :
    Calls Try.prog 5 #[.slice pa np ncap, .slice pb nb mcap] w fun e w' => e = .returned (.bool true) ∧ Below w.heap.size w w' := by
  have HLA := Lib.hid (light_any pa np ncap la w hp hmax hmax2 hsz)
  have HLB := Lib.hid (light_any pb nb mcap lb w hq hmaxb hmaxb2 hszb)
  have HEA := Lib.hid (Encode_any pa np ncap la w hp hmax hmax2)
  have HEB : Hid (∀ w1, Below w.heap.size w w1 → Hid (Calls Try.prog 11 #[.slice pb nb mcap] w1 (EncRes w1 (wordsOf lb)))) := Lib.hid fun w1 hb =>
    Encode_any pb nb mcap lb w1 ((hq.below hb (Nat.le_refl _)).more hb.size) hmaxb hmaxb2
  have HEC : Hid (∀ w1, Below w.heap.size w w1 → ∀ B v, w1.ownsRow B 38 1 v (np + nb) ((la ++ lb).map Ln.val) → np + nb ≤ 1048576 → Hid (Calls Try.prog 11 #[v] w1 (EncRes w1 (wordsOf la ++ wordsOf lb)))) := Lib.hid fun w1 hb B v hown hn => by
    obtain ⟨sp, cap, rfl, hl⟩ := lines_of_own hown (fun q hq' => by
      rcases List.mem_append.1 hq' with h | h
      · exact ((hp.each q h).below hb (Nat.le_refl _)).more hb.size
      · exact ((hq.each q h).below hb (Nat.le_refl _)).more hb.size)
    have := Encode_any sp (np + nb) cap (la ++ lb) w1 hl (by omega) (fun q hq' => (List.mem_append.1 hq').elim (hmax2 q) (hmaxb2 q))
    rw [wordsOf_append] at this
    exact this
  have HPA := Lib.hid hp; have HPB := Lib.hid hq; have HNA := Lib.hid hna; have HNB := Lib.hid hnb
  have HCAT := Lib.hid (enc_append (wordsOf la) (wordsOf lb))
  have HZA := Lib.hid (fun h => enc_len (a := wordsOf la) h)
  have HZB := Lib.hid (fun h => enc_len (a := wordsOf lb) h)
  clear hp hmax2 hsz hna hq hmaxb2 hszb hnb
  generalize wordsOf la ++ wordsOf lb = wc at *
  generalize wordsOf la = wa at *
  generalize wordsOf lb = wb at *
  go_enter Try.func5, Try.ntmps5
  go_wp2_with fail
  refine HLA.out.mono ?_
  rintro e w' ⟨⟨ba, rfl, hba⟩, rfl⟩
  cases ba
  · go_wp2_with fail
    go_ret
    exact ⟨rfl, Below.refl _ _⟩
  · have hba := hba rfl
    go_wp2_with fail
    refine HLB.out.mono ?_
    rintro e w' ⟨⟨bb, rfl, hbb⟩, rfl⟩
    cases bb
    · go_wp2_with fail
      go_ret
      exact ⟨rfl, Below.refl _ _⟩
    · have hbb := hbb rfl
      go_wp2_with fail
      refine HEA.out.mono ?_
      rintro e w1 ⟨v1, rfl, hown1, hb1⟩
      go_wp2_with fail
      refine (HEB.out w1 hb1).out.mono ?_
      rintro e w2 ⟨v2, rfl, hown2, hb2⟩
      have hs1 := hb1.size; have hs2 := hb2.size
      have hb12 := hb1.trans (hb2.mono hs1)
      have hs12 := hb12.size
      have hba0 : Below w2.heap.size w2 (w2.alloc (.cells #[] 38)) := (Below.refl _ _).alloc (Nat.le_refl _) _
      have HOZ := Lib.hid (World.ownsRow_made (base := w2.heap.size) (e := 38) (size := 1) w2 #[] 0 (Nat.le_refl _) (by unfold maxLen; omega) rfl)
      have HRB := Lib.hid (fun w : World => (show (Instr.buildSlice 27 0 #[]).run Try.prog w = .ok (.slice (some ⟨w.heap.size, 0, none⟩) 0 0) (w.alloc (.cells #[] 38)) by kernel_rfl))
      have HBA0 := Lib.hid hba0; clear hba0
      clear hmax hmaxb
      go_wp2_with (first
        | (refine wpList_build0 rfl 27 38 rfl HRB.out ?_; intro v0 w0 hv0 hw0; have HO0 := (by rw [hv0.out, hw0.out]; exact HOZ.out : w0.ownsRow w2.heap.size 38 1 v0 0 []); have hz0 : Below w2.heap.size w2 w0 := (by rw [hw0.out]; exact HBA0.out); have HPA2 := Lib.hid (HPA.out.below (hb12.trans (hz0.mono hs12)) (Nat.le_refl _)); have hzs := hz0.size; have HOX := Lib.hid HO0; clear HO0)
        | (at_builtin; (refine wpList_append_lns rfl (.tmp 30) (.tmp 31) 27 38 rfl Try.underlying27 Try.infoL w2.heap.size _ [] 0 rfl HOX.out pa np ncap w.heap.size la rfl HPA2.out HNA.out (by omega) hzs ?_); intro v3 w3 hown3 hg3; have hb3 := hz0.grown hg3 hzs (fun k hk => (HOX.out.lt k hk).1); have HPB3 := Lib.hid (HPB.out.below (hb12.trans (hb3.mono hs12)) (Nat.le_refl _)); have hs3 := hb3.size; have hg3s := hg3.size)
        | (at_builtin; refine wpList_append_lns rfl (.tmp 32) (.tmp 33) 27 38 rfl Try.underlying27 Try.infoL w2.heap.size _ _ _ rfl hown3.out pb nb mcap w.heap.size lb rfl HPB3.out HNB.out (by omega) (by omega) ?_; intro v4 w4 hown4 hg4; have hb4 := hb3.grown hg4 hs3 (fun k hk => (hown3.out.lt k hk).1)))
      have hs4 := hb4.size
      have ho4 : w4.ownsRow w2.heap.size 38 1 v4 (np + nb) ((la ++ lb).map Ln.val) := by
        have := hown4.out; rw [List.map_append]; simpa using this
      have hb24 : Below w2.heap.size w2 w4 := hb4
      refine (HEC.out w4 (hb12.trans (hb24.mono hs12)) w2.heap.size v4 ho4 (by omega)).out.mono ?_
      rintro e w5 ⟨v5, rfl, hown5, hb5⟩
      clear ho4 hown4 hown3 HOX HOZ HRB
      have HC1 := Lib.hid HCAT.out.1
      have HC2 := Lib.hid HCAT.out.2
      clear HCAT
      have hs5 := hb5.size
      have hb25 := hb24.trans (hb5.mono hb24.size)
      have HX1 := Lib.hid (own_belowJ (own_belowJ hown1.out hb2) hb25)
      have HX2 := Lib.hid (own_belowJ hown2.out hb25)
      clear hown1 hown2
      generalize (enc wa).2 = X1 at *
      generalize (enc wb).2 = X2 at *
      generalize (enc wc).2 = X3 at *
      generalize (enc wa).1 = n1 at *
      generalize (enc wb).1 = n2 at *
      generalize (enc wc).1 = n3 at *
      have hbe := hb12.trans (hb25.mono hs12)
      have hbes := hbe.size
      by_cases h1 : n1 = 0
      · by_cases h2 : n2 = 0
        · subst h1 h2
          by_cases h3 : n3 = 3
          · subst h3
            go_wp2_with (go_at_call 9; refine (awake_any _).mono ?_; rintro e w6 ⟨rfl, hb6⟩)
            go_ret
            exact ⟨rfl, hbe.trans (hb6.mono hbes)⟩
          · obtain ⟨h0, hx⟩ := HC2.out rfl rfl h3
            subst h0 hx
            go_wp2_with fail
            refine (awake_any _).mono ?_
            rintro e w6 ⟨rfl, hb6⟩
            have c1 := run_string_own (own_belowJ HX1.out hb6)
            have c2 := run_string_own (own_belowJ HX2.out hb6)
            have c3 := run_string_own (own_belowJ hown5.out hb6)
            have l1 : (⟨X1.toArray⟩ : ByteArray).size ≤ 262144 := HZA.out (by simp)
            have l2 : (⟨X2.toArray⟩ : ByteArray).size ≤ 262144 := HZB.out (by simp)
            have hcat := cat_bytes X1 X2
            generalize (⟨X1.toArray⟩ : ByteArray) = S1 at *
            generalize (⟨X2.toArray⟩ : ByteArray) = S2 at *
            generalize (⟨(X1 ++ X2).toArray⟩ : ByteArray) = S3 at *
            have hadd := run_string_add_sum (P := Try.prog) w6 S1 S2 (by omega)
            rw [hcat] at hadd
            clear hcat
            go_wp2_with fail
            go_ret
            exact ⟨ret_bool (by simp), hbe.trans (hb6.mono hbes)⟩
        · have hn := HC1.out (.inr h2)
          have b2 : ((n2 : Int) != 0) = true := by rw [bne_iff_ne]; omega
          have b3 : ((n3 : Int) != 0) = true := by rw [bne_iff_ne]; omega
          subst h1
          clear h2 hn
          go_wp2_with (go_at_call 9; refine (awake_any _).mono ?_; rintro e w6 ⟨rfl, hb6⟩)
          go_ret
          exact ⟨rfl, hbe.trans (hb6.mono hbes)⟩
      · have hn := HC1.out (.inl h1)
        have b1 : ((n1 : Int) != 0) = true := by rw [bne_iff_ne]; omega
        have b3 : ((n3 : Int) != 0) = true := by rw [bne_iff_ne]; omega
        clear h1 hn
        go_wp2_with (go_at_call 9; refine (awake_any _).mono ?_; rintro e w6 ⟨rfl, hb6⟩)
        go_ret
        exact ⟨rfl, hbe.trans (hb6.mono hbes)⟩
end Go.Proofs.Ytnhidfinmghjmab
