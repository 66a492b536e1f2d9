/-
  The walk of the statement PatternJoins: it returns true for all strings.
-/
import Derived.Test.YtmafefdchglpbabDoorLawPLit
import Derived.Test.YtmafefdchglpbabDoorLawPRet
namespace Go.Proofs.YtmafefdchglpbabDoor
open Go.RowKit

theorem idx_none (la lb : List UInt8) (h : Lib.indexByte la 47 = -1) : Lib.indexByte (la ++ 47 :: lb) 47 = la.length := by
  induction la with
  | nil => rfl
  | cons a t ih =>
    have hge := Lib.indexByte_ge t 47
    rw [Lib.indexByte] at h
    have ha : (a == 47) = false := by
      cases hh : (a == 47)
      · rfl
      · rw [hh, if_pos rfl] at h; cases h
    rw [ha, if_neg (by simp)] at h
    have ht : Lib.indexByte t 47 = -1 := by
      by_cases h1 : (Lib.indexByte t 47 == -1) = true
      · exact beq_iff_eq.1 h1
      · rw [if_neg h1] at h; omega
    rw [List.cons_append, Lib.indexByte, ha, if_neg (by simp), ih ht, if_neg (by rw [beq_iff_eq]; omega)]
    simp
theorem idx_some (la lb : List UInt8) (i : Nat) (h : Lib.indexByte la 47 = i) : Lib.indexByte (la ++ lb) 47 = i := by
  induction la generalizing i with
  | nil => rw [Lib.indexByte] at h; omega
  | cons a t ih =>
    have hge := Lib.indexByte_ge t 47
    rw [Lib.indexByte] at h
    rw [List.cons_append, Lib.indexByte]
    by_cases ha : (a == 47) = true
    · rw [if_pos ha] at h ⊢; exact h
    · rw [if_neg ha] at h ⊢
      by_cases h1 : (Lib.indexByte t 47 == -1) = true
      · rw [if_pos h1] at h; omega
      · rw [if_neg h1] at h
        obtain ⟨j, hj⟩ : ∃ j : Nat, Lib.indexByte t 47 = j := ⟨(Lib.indexByte t 47).toNat, by rw [beq_iff_eq] at h1; omega⟩
        rw [ih j hj, if_neg (by rw [beq_iff_eq]; omega)]
        rw [hj] at h; exact h
theorem seg_join : ∀ (n : Nat) (a b : ByteArray), a.size ≤ n → seg (a ++ slB ++ b) = seg a ++ seg b
  | n, a, b, hn => by
    have hl : (a ++ slB ++ b).data.toList = a.data.toList ++ 47 :: b.data.toList := by
      rw [append_listS, append_listS, List.append_assoc]; rfl
    rcases Lib.indexB_cases a slB with hix | ⟨i, hix, hroom⟩
    · have h1 : Lib.indexB (a ++ slB ++ b) slB = (a.size : Nat) := by
        rw [indexB_one] at hix ⊢
        rw [hl, idx_none _ _ hix, Lib.size_eq]
      rw [seg_hit _ a.size h1, seg_miss a hix]
      have e1 : (a ++ slB ++ b).extract 0 a.size = a := by
        apply eq_listS
        rw [ByteArray.data_extract, Array.toList_extract, List.extract_eq_take_drop, List.drop_zero, Nat.sub_zero, hl, Lib.size_eq, List.take_left]
      have e2 : (a ++ slB ++ b).extract (a.size + 1) (a ++ slB ++ b).size = b := by
        apply eq_listS
        rw [extract_listS, append_listS, show a.size + 1 = (a ++ slB).data.toList.length by rw [append_listS, List.length_append, ← Lib.size_eq]; rfl, List.drop_left]
      rw [e1, e2]; rfl
    · have hr : i + 1 ≤ a.size := hroom
      match n, hn with
      | 0, hn => omega
      | m + 1, hn =>
      have h1 : Lib.indexB (a ++ slB ++ b) slB = (i : Nat) := by
        rw [indexB_one] at hix ⊢
        rw [hl]; exact idx_some _ _ i hix
      rw [seg_hit _ i h1, seg_hit a i hix]
      have e1 : (a ++ slB ++ b).extract 0 i = a.extract 0 i := by
        apply eq_listS
        rw [ByteArray.data_extract, Array.toList_extract, List.extract_eq_take_drop, List.drop_zero, Nat.sub_zero, hl, ByteArray.data_extract, Array.toList_extract, List.extract_eq_take_drop, List.drop_zero, Nat.sub_zero, List.take_append_of_le_length (by rw [← Lib.size_eq]; omega)]
      have e2 : (a ++ slB ++ b).extract (i + 1) (a ++ slB ++ b).size = a.extract (i + 1) a.size ++ slB ++ b := by
        apply eq_listS
        rw [extract_listS, hl, List.drop_append_of_le_length (by rw [← Lib.size_eq]; omega), append_listS, append_listS, extract_listS, List.append_assoc]; rfl
      rw [e1, e2, seg_join m (a.extract (i + 1) a.size) b (by rw [ByteArray.size_extract]; omega)]; rfl
theorem zero_mem {l : List UInt8} (h : Lib.indexByte l 0 < 0) : (0 : UInt8) ∉ l := by
  intro hm
  have hge := Lib.indexByte_ge l 0
  obtain ⟨k, hk, he⟩ := List.getElem_of_mem hm
  have := Lib.indexByte_none (l := l) (c := 0) (by omega) k
  apply this
  rw [List.getElem?_eq_getElem hk, he]
theorem zero_of_mem {l : List UInt8} (h : (0 : UInt8) ∉ l) : Lib.indexByte l 0 < 0 := by
  refine zero_free fun j hj hz => ?_
  rw [List.getD_eq_getElem?_getD, List.getElem?_eq_getElem hj] at hz
  exact h (hz ▸ List.getElem_mem hj)
theorem pathB_join {a b : ByteArray} (ha : pathB a = true) (hb : pathB b = true) (hs : a.size + b.size ≤ 150) : pathB (a ++ slB ++ b) = true := by
  have h1 : (a ++ slB ++ b).size ≤ 200 := by rw [ByteArray.size_append, ByteArray.size_append]; show a.size + 1 + b.size ≤ 200; omega
  have h2 : Lib.indexByte (a ++ slB ++ b).data.toList 0 < 0 := by
    apply zero_of_mem
    rw [append_listS, append_listS]
    have m1 := zero_mem (pathB_zero ha)
    have m2 := zero_mem (pathB_zero hb)
    simp only [List.mem_append, not_or]
    exact ⟨⟨m1, by decide⟩, m2⟩
  rw [pathB_of _ h1 h2, seg_join a.size a b (Nat.le_refl _), List.all_append]
  unfold pathB at ha hb
  simp only [Bool.and_eq_true] at ha hb
  rw [ha.2, hb.2]; rfl
theorem rdP_litl (l r : List UInt8) : rdP (litL l ++ r) = (rdP r).map (litP l ++ ·) := by
  induction l with
  | nil => simp [litL, litP]
  | cons c t ih =>
    have e : litL (c :: t) = lit1 c ++ litL t := by simp [litL]
    have e2 : litP (c :: t) = (0, (c.toNat : Int)) :: litP t := rfl
    have key : ((rdP r).map (litP t ++ ·)).map (((0, (c.toNat : Int)) : Pt) :: ·) = (rdP r).map (litP (c :: t) ++ ·) := by
      rw [Option.map_map, e2]; rfl
    rw [e]
    unfold lit1
    cases h : spB c
    · rw [if_neg (by simp)]
      have hc : c ≠ 92 ∧ c ≠ 42 ∧ c ≠ 63 := by
        unfold spB at h
        simp only [Bool.or_eq_false_iff, beq_eq_false_iff_ne] at h
        exact ⟨h.1.1, h.1.2, h.2⟩
      rw [List.singleton_append, List.cons_append, rdP_c c _ hc.1 hc.2.1 hc.2.2, ih, key]
    · rw [if_pos rfl]
      show rdP (92 :: c :: (litL t ++ r)) = _
      rw [rdP_esc, ih, key]
theorem getD_cons (q : Pt) (ps : List Pt) (i : Nat) : (q :: ps).getD (i + 1) (0, 0) = ps.getD i (0, 0) := rfl
theorem arr_shift (q : Pt) (hq : seqP q = false) (ps : List Pt) (old : List Bool) (x : Int) : ∀ i, arr (q :: ps) (false :: old) x (i + 1) = arr ps old x i
  | 0 => by rw [(nvc_one (i := 0) (ps := q :: ps) hq).2]; rfl
  | i + 1 => by
    have ih := arr_shift q hq ps old x i
    cases h : seqP (ps.getD i (0, 0))
    · have h1 : seqP ((q :: ps).getD (i + 1) (0, 0)) = false := h
      rw [(nvc_one h1).2, (nvc_one h).2]; rfl
    · show (if _ then _ else _) = (if _ then _ else _)
      rw [getD_cons, h, if_pos rfl, if_pos rfl, ih]; rfl
theorem nvc_shift (q : Pt) (hq : seqP q = false) (ps : List Pt) (old : List Bool) (x : Int) (i : Nat) : nvc (q :: ps) (false :: old) x (i + 1) = nvc ps old x i := by
  unfold nvc
  rw [getD_cons, arr_shift q hq, arr_shift q hq]
  have : decide (i + 1 < (q :: ps).length) = decide (i < ps.length) := by simp
  rw [this]
theorem advL_shift (q : Pt) (hq : seqP q = false) (ps : List Pt) (old : List Bool) (x : Int) : advL (q :: ps) (false :: old) x = false :: advL ps old x := by
  unfold advL
  rw [List.length_cons, List.range_succ_eq_map, List.map_cons, List.map_map]
  congr 1
  · rw [(nvc_one (i := 0) (ps := q :: ps) hq).1]; rfl
  · apply List.map_congr_left
    intro i _
    exact nvc_shift q hq ps old x i
theorem ini_cons (q : Pt) (hq : seqP q = false) (ps : List Pt) : ∀ i, ini (q :: ps) (i + 1) = false
  | 0 => by rw [ini_succ]; show (_ && seqP q) = false; rw [hq, Bool.and_false]
  | i + 1 => by rw [ini_succ, ini_cons q hq ps i]; rfl
theorem iniL_at (ps : List Pt) (i : Nat) (h : i ≤ ps.length) : (iniL ps).getD i false = ini ps i := by
  unfold iniL
  rw [List.getD_eq_getElem?_getD, List.getElem?_map, List.getElem?_range (by omega)]; rfl
theorem arr_first (c : UInt8) (ps : List Pt) : ∀ i, i ≤ ps.length → arr ((0, (c.toNat : Int)) :: ps) (iniL ((0, (c.toNat : Int)) :: ps)) (c.toNat : Int) (i + 1) = ini ps i
  | 0, _ => by
    rw [(nvc_one (i := 0) (ps := (0, (c.toNat : Int)) :: ps) rfl).2, iniL_at _ _ (Nat.zero_le _)]
    show (ini _ 0 && ((c.toNat : Int) == (c.toNat : Int))) = _
    rw [beq_self_eq_true]; rfl
  | i + 1, hi => by
    have ih := arr_first c ps i (by omega)
    have ho : (iniL ((0, (c.toNat : Int)) :: ps)).getD (i + 1) false = false := by
      rw [iniL_at _ _ (by simp; omega)]; exact ini_cons _ rfl ps i
    rw [ini_succ]
    cases h : seqP (ps.getD i (0, 0))
    · have h1 : seqP (((0, (c.toNat : Int)) :: ps).getD (i + 1) (0, 0)) = false := h
      rw [(nvc_one h1).2, ho, Bool.false_and, Bool.and_false]
    · show (if _ then _ else _) = _
      rw [getD_cons, h, if_pos rfl, ih, ho]; simp
theorem advL_first (c : UInt8) (ps : List Pt) : advL ((0, (c.toNat : Int)) :: ps) (iniL ((0, (c.toNat : Int)) :: ps)) (c.toNat : Int) = false :: iniL ps := by
  unfold advL
  rw [List.length_cons, List.range_succ_eq_map, List.map_cons, List.map_map]
  congr 1
  show _ = (List.range (ps.length + 1)).map (ini ps)
  apply List.map_congr_left
  intro i hi
  have hi' : i ≤ ps.length := by have := List.mem_range.1 hi; omega
  show nvc _ _ _ (i + 1) = _
  unfold nvc
  rw [getD_cons, arr_first c ps i hi']
  cases h : (decide (i + 1 < (((0, (c.toNat : Int)) : Pt) :: ps).length) && seqP (ps.getD i (0, 0)))
  · rw [if_neg (by simp)]
  · rw [if_pos rfl]
    simp only [Bool.and_eq_true, decide_eq_true_iff] at h
    have hlt : i < ps.length := by have := h.1; simp at this; exact this
    rw [arr_first c ps (i + 1) (by omega), ini_succ, h.2, Bool.and_true]
theorem conc_shift (c : UInt8) (ps : List Pt) (v : List UInt8) : concB ((0, (c.toNat : Int)) :: ps) (c :: v) = concB ps v := by
  have key : ∀ (u : List UInt8) (old : List Bool), u.foldl (fun w x => advL ((0, (c.toNat : Int)) :: ps) w (x.toNat : Int)) (false :: old) = false :: u.foldl (fun w x => advL ps w (x.toNat : Int)) old := by
    intro u
    induction u with
    | nil => intro old; rfl
    | cons y t ih => intro old; rw [List.foldl_cons, List.foldl_cons, advL_shift _ rfl, ih]
  unfold concB runL
  rw [List.foldl_cons, advL_first, key]
  rfl
theorem conc_lits (ps : List Pt) : ∀ (u v : List UInt8), concB (litP u ++ ps) (u ++ v) = concB ps v
  | [], v => rfl
  | c :: t, v => by
    have e : litP (c :: t) ++ ps = (0, (c.toNat : Int)) :: (litP t ++ ps) := rfl
    rw [e, List.cons_append, conc_shift, conc_lits ps t v]
theorem mt_join {d p s : ByteArray} (hd : pathB d = true) (hp : validB p = true) (hs : pathB s = true) (h1 : d.size ≤ 60) (h2 : p.size ≤ 60) (h3 : s.size ≤ 60) : mtB (litB d ++ slB ++ p) (d ++ slB ++ s) = mtB p s := by
  have hlit : litB d = ⟨(litL d.data.toList).toArray⟩ := by unfold litB; rw [hd]; rfl
  unfold validB at hp
  cases hps : patL p.data.toList with
  | none => rw [hps] at hp; cases hp
  | some ps =>
    have hr := (patL_kinds hps).2.2
    have hz : Lib.indexByte p.data.toList 0 < 0 := by
      rcases Int.lt_or_le (Lib.indexByte p.data.toList 0) 0 with h | h
      · exact h
      · rw [patL_nil _ (.inr (.inr (by omega)))] at hps; cases hps
    have hl : (litB d ++ slB ++ p).data.toList = litL (d.data.toList ++ [47]) ++ p.data.toList := by
      rw [append_listS, append_listS, hlit]
      show litL d.data.toList ++ [47] ++ _ = _
      have : litL (d.data.toList ++ [47]) = litL d.data.toList ++ [47] := by unfold litL; rw [List.flatMap_append]; rfl
      rw [this]
    have hrd : rdP (litB d ++ slB ++ p).data.toList = some (litP (d.data.toList ++ [47]) ++ ps) := by
      rw [hl, rdP_litl, hr]; rfl
    have hlen : (litL (d.data.toList ++ [47]) ++ p.data.toList).length ≤ 200 := by
      have := litL_le (d.data.toList ++ [47])
      rw [List.length_append] at this ⊢
      rw [← Lib.size_eq] at this ⊢
      simp at this
      omega
    have hpat : patL (litB d ++ slB ++ p).data.toList = some (litP (d.data.toList ++ [47]) ++ ps) := by
      rw [← hrd]
      refine patL_of ?_ (by rw [hl]; exact hlen) ?_
      · rw [append_listS, append_listS]; intro e
        have h4 := (List.append_eq_nil_iff.1 e).1
        have h5 := (List.append_eq_nil_iff.1 h4).2
        revert h5; decide
      · apply zero_of_mem
        rw [hl]
        simp only [List.mem_append, not_or]
        refine ⟨fun hm => ?_, zero_mem hz⟩
        rcases lit_mem hm with h4 | h4
        · cases h4
        · rcases List.mem_append.1 h4 with h5 | h5
          · exact zero_mem (pathB_zero hd) h5
          · revert h5; decide
    rw [mtB_some hpat, mtB_some hps, pathB_join hd hs (by omega), hs, Bool.true_and, Bool.true_and]
    have e : (d ++ slB ++ s).data.toList = (d.data.toList ++ [47]) ++ s.data.toList := by rw [append_listS, append_listS]; rfl
    rw [e, conc_lits]
set_option maxRecDepth 100000 in
set_option maxHeartbeats 1000000 in
theorem patternJoins_any (d p s : ByteArray) (w : World) :
    Calls Tryd.prog 3 #[.string d, .string p, .string s] w fun e w' => e = .returned (.bool true) ∧ Below w.heap.size w w' := by
  have H0 := Lib.hid (fun w => awakeP_any w)
  by_cases h1 : 60 < d.size
  · have hd : decide ((d.size : Int) > 60) = true := by simp; omega
    go_enter Tryd.func3, Tryd.ntmps3
    go_wp2_with fail
    refine (H0.out _).mono ?_
    rintro e w1 ⟨rfl, b1⟩
    go_wp2_with fail
    go_ret
    exact ⟨rfl, b1⟩
  have hd : decide ((d.size : Int) > 60) = false := by simp; omega
  by_cases h2 : 60 < p.size
  · have hd2 : decide ((p.size : Int) > 60) = true := by simp; omega
    go_enter Tryd.func3, Tryd.ntmps3
    go_wp2_with fail
    refine (H0.out _).mono ?_
    rintro e w1 ⟨rfl, b1⟩
    go_wp2_with fail
    go_ret
    exact ⟨rfl, b1⟩
  have hd2 : decide ((p.size : Int) > 60) = false := by simp; omega
  by_cases h3 : 60 < s.size
  · have hd3 : decide ((s.size : Int) > 60) = true := by simp; omega
    go_enter Tryd.func3, Tryd.ntmps3
    go_wp2_with fail
    refine (H0.out _).mono ?_
    rintro e w1 ⟨rfl, b1⟩
    go_wp2_with fail
    go_ret
    exact ⟨rfl, b1⟩
  have hd3 : decide ((s.size : Int) > 60) = false := by simp; omega
  have H1 := Lib.hid (fun w => Path_any d w)
  have H2 := Lib.hid (fun w => Valid_any p w)
  have H3 := Lib.hid (fun w => Path_any s w)
  have H4 := Lib.hid (fun w => Literal_any d w)
  have H5 := Lib.hid (fun w => Match_any (litB d ++ slB ++ p) (d ++ slB ++ s) w)
  have H6 := Lib.hid (fun w => Match_any p s w)
  have HJ := Lib.hid (fun (a : pathB d = true) (b : validB p = true) (c : pathB s = true) => mt_join a b c (by omega) (by omega) (by omega))
  have hll : (litB d).size ≤ 120 := by
    unfold litB
    split
    · show (litL d.data.toList).toArray.size ≤ 120
      have := litL_le d.data.toList
      rw [← Lib.size_eq] at this
      simp; omega
    · exact Nat.zero_le _
  obtain ⟨pd, hpd⟩ : ∃ b, pathB d = b := ⟨_, rfl⟩
  obtain ⟨vp, hvp⟩ : ∃ b, validB p = b := ⟨_, rfl⟩
  obtain ⟨q, hq⟩ : ∃ b, pathB s = b := ⟨_, rfl⟩
  obtain ⟨m1, hm1⟩ : ∃ b, mtB (litB d ++ slB ++ p) (d ++ slB ++ s) = b := ⟨_, rfl⟩
  obtain ⟨m2, hm2⟩ : ∃ b, mtB p s = b := ⟨_, rfl⟩
  rw [hpd] at H1 HJ
  rw [hvp] at H2 HJ
  rw [hq] at H3 HJ
  rw [hm1] at H5 HJ
  rw [hm2] at H6 HJ
  obtain ⟨lb, hlb⟩ : ∃ b, litB d = b := ⟨_, rfl⟩
  rw [hlb] at H4 H5 hll
  clear hpd hvp hq hm1 hm2 hlb
  go_enter Tryd.func3, Tryd.ntmps3
  go_wp2_with fail
  refine (H1.out _).mono ?_
  rintro e w1 ⟨rfl, b1⟩
  cases pd
  · go_wp2_with fail
    refine (H0.out _).mono ?_
    rintro e w2 ⟨rfl, b2⟩
    go_wp2_with fail
    go_ret
    exact ⟨rfl, b1.trans (b2.mono b1.size)⟩
  go_wp2_with fail
  refine (H2.out _).mono ?_
  rintro e w2 ⟨rfl, b2⟩
  have b2 := b1.trans (b2.mono b1.size)
  cases vp
  · go_wp2_with fail
    refine (H0.out _).mono ?_
    rintro e w3 ⟨rfl, b3⟩
    go_wp2_with fail
    go_ret
    exact ⟨rfl, b2.trans (b3.mono b2.size)⟩
  go_wp2_with fail
  refine (H3.out _).mono ?_
  rintro e w3 ⟨rfl, b3⟩
  have b3 := b2.trans (b3.mono b2.size)
  cases q
  · go_wp2_with fail
    refine (H0.out _).mono ?_
    rintro e w4 ⟨rfl, b4⟩
    go_wp2_with fail
    go_ret
    exact ⟨rfl, b3.trans (b4.mono b3.size)⟩
  have hmm := HJ.out (by first | rfl | trivial) (by first | rfl | trivial) (by first | rfl | trivial)
  subst hmm
  have e1 : lb.size + 1 ≤ 9223372036854775807 := by omega
  have e2 : lb.size + 1 + p.size ≤ 9223372036854775807 := by omega
  have e3 : d.size + 1 ≤ 9223372036854775807 := by omega
  have e4 : d.size + 1 + s.size ≤ 9223372036854775807 := by omega
  clear b1 b2 HJ
  go_wp2_with fail
  refine (H0.out _).mono ?_
  rintro e w4 ⟨rfl, b4⟩
  have b4 := b3.trans (b4.mono b3.size)
  go_wp2_with fail
  refine (H4.out _).mono ?_
  rintro e w5 ⟨rfl, b5⟩
  have b5 := b4.trans (b5.mono b4.size)
  clear b3 b4
  go_wp2_with fail
  refine (H5.out _).mono ?_
  rintro e w6 ⟨rfl, b6⟩
  have b6 := b5.trans (b6.mono b5.size)
  go_wp2_with fail
  refine (H6.out _).mono ?_
  rintro e w7 ⟨rfl, b7⟩
  have b7 := b6.trans (b7.mono b6.size)
  go_wp2_with fail
  go_ret
  exact ⟨rfl, b7⟩
end Go.Proofs.YtmafefdchglpbabDoor
