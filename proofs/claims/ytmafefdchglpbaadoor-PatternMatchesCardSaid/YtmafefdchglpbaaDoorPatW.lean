/-
  The walks of the reference's read, Valid and of its parts' methods: for every string.
-/
import Derived.Test.YtmafefdchglpbaaDoorPatV
namespace Go.Proofs.YtmafefdchglpbaaDoor
open Go.RowKit

/-- the reference's parts: their sample is 0 where it is not looked at -/
def rf1 (p : Pt) : Pt := if p.1 = 0 then p else (p.1, 0)
theorem rf1_kind (p : Pt) : (rf1 p).1 = p.1 := by unfold rf1; split <;> rfl
theorem rf1_seq (p : Pt) : seqP (rf1 p) = seqP p := by unfold seqP; rw [rf1_kind]
theorem rf1_tk (p : Pt) (c : Int) : tkP (rf1 p) c = tkP p c := by
  unfold tkP rf1
  by_cases h : p.1 = 0
  · rw [if_pos h]
  · rw [if_neg h]; simp [h]
theorem rf_getD (ps : List Pt) (i : Nat) : (ps.map rf1).getD i (0, 0) = rf1 (ps.getD i (0, 0)) := by
  rw [List.getD_eq_getElem?_getD, List.getD_eq_getElem?_getD, List.getElem?_map]
  cases ps[i]? <;> rfl
theorem Tryd.infoPtR : (Tryd.prog.info? 82).map (fun i => (i.zero, i.size, i.bytes)) = some (some (.agg #[.int .i64 0, .int .u8 0]), 2, 16) := by kernel_rfl
set_option maxHeartbeats 400000 in
theorem refLong_any (p : Pt) (w : World) (hk : p.1 ≤ 3) :
    Calls Tryd.prog 56 #[.agg #[.int .i64 (p.1 : Int), .int .u8 p.2]] w fun e w' => e = .returned (.bool (seqP p)) ∧ Below w.heap.size w w' := by
  obtain ⟨k, c⟩ := p
  rcases (by simp at hk; omega : k = 0 ∨ k = 1 ∨ k = 2 ∨ k = 3) with rfl | rfl | rfl | rfl
  all_goals
    go_enter Tryd.func56, Tryd.ntmps56
    go_wp2
    go_ret
    exact ⟨rfl, (Below.refl _ _).alloc (Nat.le_refl _) _⟩
theorem eqc (a b : Int) : (a == b) = (b == a) := by rw [Bool.eq_iff_iff, beq_iff_eq, beq_iff_eq]; exact eq_comm
set_option maxHeartbeats 400000 in
theorem refTakes_any (p : Pt) (c : Int) (w : World) (hk : p.1 ≤ 3) :
    Calls Tryd.prog 57 #[.agg #[.int .i64 (p.1 : Int), .int .u8 p.2], .int .u8 c] w fun e w' => e = .returned (.bool (tkP p c)) ∧ Below w.heap.size w w' := by
  obtain ⟨k, d⟩ := p
  rcases (by simp at hk; omega : k = 0 ∨ k = 1 ∨ k = 2 ∨ k = 3) with rfl | rfl | rfl | rfl
  · have HT : Hid (tkP (0, d) c = (d == c)) := eqc c d
    obtain ⟨b, hb⟩ : ∃ b, (d == c) = b := ⟨_, rfl⟩
    rw [hb] at HT
    cases b
    all_goals
      go_enter Tryd.func57, Tryd.ntmps57
      go_wp2
      go_ret
      exact ⟨by rw [HT.out]; rfl, (Below.refl _ _).alloc (Nat.le_refl _) _⟩
  all_goals
    go_enter Tryd.func57, Tryd.ntmps57
    go_wp2
    go_ret
    exact ⟨rfl, (Below.refl _ _).alloc (Nat.le_refl _) _⟩
def RReadRes (w : World) (l : List UInt8) (e : Ending) (w' : World) : Prop := match patL l with
  | none => e = .returned (.tuple #[.slice none 0 0, .bool false]) ∧ Below w.heap.size w w'
  | some ps => ∃ sp cap, e = .returned (.tuple #[.slice sp ps.length cap, .bool true]) ∧ w'.ownsRow w.heap.size 82 2 (.slice sp ps.length cap) ps.length (ptC (ps.map rf1)) ∧ Below w.heap.size w w'
theorem rreadRes_none {w : World} {l : List UInt8} {e : Ending} {w' : World} (h : patL l = none) (he : e = .returned (.tuple #[.slice none 0 0, .bool false])) (hb : Below w.heap.size w w') : RReadRes w l e w' := by unfold RReadRes; rw [h]; exact ⟨he, hb⟩
theorem patL_rd {l : List UInt8} (h : rdP l = none) : patL l = none := by unfold patL; split <;> first | rfl | exact h
set_option maxRecDepth 100000 in
set_option maxHeartbeats 1000000 in
theorem refRead_any (s : ByteArray) (w : World) :
    Calls Tryd.prog 54 #[.string s] w (RReadRes w s.data.toList) := by
  by_cases he : s.size = 0
  · have HN := Lib.hid (patL_nil s.data.toList (.inl (List.eq_nil_of_length_eq_zero (by rw [← Lib.size_eq]; exact he))))
    have hl : s.toList = [] := by rw [Lib.toList_data]; exact List.eq_nil_of_length_eq_zero (by rw [← Lib.size_eq]; exact he)
    go_enter Tryd.func54, Tryd.ntmps54
    go_wp2_with fail
    go_ret2
    exact rreadRes_none HN.out rfl (Below.refl _ _)
  have hl : (s.toList == []) = false := by
    rw [Lib.toList_data, beq_eq_false_iff_ne]; intro e; apply he; rw [Lib.size_eq, e]; rfl
  have hl2 : ¬ s.toList = [] := by simpa using hl
  by_cases h200 : 200 < s.size
  · have HN := Lib.hid (patL_nil s.data.toList (.inr (.inl (by rw [← Lib.size_eq]; exact h200))))
    have hd : decide ((s.size : Int) > 200) = true := by simp; omega
    go_enter Tryd.func54, Tryd.ntmps54
    go_wp2_with fail
    go_ret2
    exact rreadRes_none HN.out rfl (Below.refl _ _)
  have hd : decide ((s.size : Int) > 200) = false := by simp; omega
  have hsz : s.size ≤ 200 := by omega
  have HPO : Hid (∀ h : Lib.indexByte s.data.toList 0 < 0, patL s.data.toList = rdP s.data.toList) := fun h => patL_of (fun e => he (by rw [Lib.size_eq, e]; rfl)) (by rw [← Lib.size_eq]; exact hsz) h
  have HPZ : Hid (∀ j (hj : j < s.size), s[j] = 0 → patL s.data.toList = none) := fun j hj h => patL_nil _ (.inr (.inr (zero_in (by rw [← Lib.size_eq]; exact hj) (by rw [getD_byteP s j hj]; exact h))))
  have HLS := Lib.hid (Lib.size_eq s)
  clear h200 he
  go_enter Tryd.func54, Tryd.ntmps54
  go_wp2_with fail
  clear hl hl2 hd
  go_loopw [4, 5] (fun v i wr => ∃ (k N : Nat) (done : List Pt) (sp : Option Addr) (cap : Nat), k ≤ s.size ∧ i = .int .i64 k ∧ N ≤ k ∧ Hid (N = (done.map rf1).length) ∧ v = .slice sp N cap ∧ Hid (rdP s.data.toList = (rdP (s.data.toList.drop k)).map (done ++ ·)) ∧ Hid (∀ j, j < k → s.data.toList.getD j 0 ≠ 0) ∧ Hid (wr.ownsRow w.heap.size 82 2 (.slice sp N cap) N (ptC (done.map rf1))) ∧ Hid (Below w.heap.size w wr)) (fun _ i _ => s.size - (intOf i).toNat)
  case atStart => exact ⟨0, 0, [], none, 0, Nat.zero_le _, rfl, Nat.le_refl _, rfl, rfl, by show _ = _; simp, fun j hj => absurd hj (by omega), World.ownsRow_nil _ _ _ _, Below.refl _ _⟩
  case round =>
    obtain ⟨k, N, done, sp, cap, hk, rfl, hNk, HN, rfl, HR, HZ, hown, hbe⟩ := hrel
    have hbs := hbe.out.size
    by_cases hlt : k < s.size
    · have hd : decide ((k : Int) < (s.size : Int)) = true := by simp; omega
      have p1 : (0 : Int) ≤ (k : Int) := by omega
      have p2 : (k : Int) < (s.size : Int) := by omega
      have HD := Lib.hid (drop_at s k hlt)
      have HG := Lib.hid (getD_byteP s k hlt)
      by_cases hz : s[k] = 0
      · have t0 : ((s[k].toNat : Int) == 0) = true := by rw [hz]; rfl
        have HX := Lib.hid (HPZ.out k hlt hz)
        clear hz
        go_wp2_with fail
        go_ret2
        exact rreadRes_none HX.out rfl hbe.out
      have t0 : ((s[k].toNat : Int) == 0) = false := u8_ne (d := 0) hz
      have HZ1 : Hid (∀ j, j < k + 1 → s.data.toList.getD j 0 ≠ 0) := fun j hj => by
        by_cases h : j < k
        · exact HZ.out j h
        · obtain rfl : j = k := by omega
          rw [HG.out]; exact hz
      clear hz
      have q1 : (0 : Int) ≤ (k : Int) + 1 := by omega
      have q3 : ((k : Int) + 1).toNat = k + 1 := by omega
      by_cases c92 : s[k] = 92
      · have t92 : ((s[k].toNat : Int) == 92) = true := by rw [c92]; rfl
        by_cases hend : k + 1 = s.size
        · have hx : ((k : Int) + 1 == (s.size : Int)) = true := by rw [beq_iff_eq]; omega
          have HX : Hid (patL s.data.toList = none) := by
            show _ = _
            apply patL_rd
            rw [HR.out, HD.out, c92, List.drop_eq_nil_of_le (by rw [← HLS.out]; omega), rdP_cons_esc_end]; rfl
          clear c92 hend
          go_wp2_with fail
          go_ret2
          exact rreadRes_none HX.out rfl hbe.out
        · have hx : ((k : Int) + 1 == (s.size : Int)) = false := by rw [beq_eq_false_iff_ne]; omega
          have hlt2 : k + 1 < s.size := by omega
          have q2 : (k : Int) + 1 < (s.size : Int) := by omega
          have HG2 := Lib.hid (getD_byteP s (k + 1) hlt2)
          by_cases hz2 : s[k + 1] = 0
          · have t1 : ((s[k + 1].toNat : Int) == 0) = true := by rw [hz2]; rfl
            have HX := Lib.hid (HPZ.out (k + 1) hlt2 hz2)
            clear hz2 c92 hend
            go_wp2_with fail
            go_ret2
            exact rreadRes_none HX.out rfl hbe.out
          have t1 : ((s[k + 1].toNat : Int) == 0) = false := u8_ne (d := 0) hz2
          have HZ2 : Hid (∀ j, j < k + 1 + 1 → s.data.toList.getD j 0 ≠ 0) := fun j hj => by
            by_cases h : j < k + 1
            · exact HZ1.out j h
            · obtain rfl : j = k + 1 := by omega
              rw [HG2.out]; exact hz2
          have HST : Hid (rdP s.data.toList = (rdP (s.data.toList.drop (k + 1 + 1))).map ((done ++ [((0, ((s[k + 1]).toNat : Int)) : Pt)]) ++ ·)) := by
            show _ = _
            refine rdP_go (m := 1 + 1) HR.out ?_
            rw [HD.out, c92, drop_at s (k + 1) hlt2, rdP_esc]
          clear c92 hend hz2
          go_wp2_with (first
            | (at_builtin; refine wpList_append_pt rfl (.tmp 47) (.tmp 52) 76 82 rfl Tryd.underlying76 Tryd.infoPtR w.heap.size _ (done.map rf1) N rfl HN.out (hown.out.alloc _) wr.heap.size ((0, ((s[k + 1]).toNat : Int)) : Pt) rfl (by simp) (by simp) (by omega) (by simp; omega) ?_; intro sp5 cap5 w5 hown5 hg5))
          have hbe5 := (hbe.out.alloc hbs _).grown hg5 (by simp; omega) (own_baseP hown.out)
          go_roundw
          case rel =>
            refine ⟨k + 1 + 1, N + 1, done ++ [((0, ((s[k + 1]).toNat : Int)) : Pt)], sp5, cap5, by omega, by go_num, by omega, ?_, rfl, HST.out, HZ2.out, ?_, hbe5⟩
            · show _ = _; rw [List.map_append, List.length_append, ← HN.out]; rfl
            · show World.ownsRow _ _ _ _ _ _ _; rw [List.map_append]; exact hown5.out
          case measure => simp [intOf]; omega
      · have t92 : ((s[k].toNat : Int) == 92) = false := u8_ne (d := 92) c92
        by_cases c42 : s[k] = 42
        · have t42 : ((s[k].toNat : Int) == 42) = true := by rw [c42]; rfl
          by_cases h42 : (s.data.toList.drop (k + 1)).head? = some 42
          · have hlt2 : k + 1 < s.size := by
              rcases Nat.lt_or_ge (k + 1) s.size with h | h
              · exact h
              · rw [List.drop_eq_nil_of_le (by rw [← HLS.out]; omega)] at h42; cases h42
            have h42b : s[k + 1] = 42 := by rw [drop_at s (k + 1) hlt2] at h42; simpa using h42
            have hx : decide ((k : Int) + 1 < (s.size : Int)) = true := by simp; omega
            have q2 : (k : Int) + 1 < (s.size : Int) := by omega
            have t1 : ((s[k + 1].toNat : Int) == 42) = true := by rw [h42b]; rfl
            have HG2 := Lib.hid (getD_byteP s (k + 1) hlt2)
            have HZ2 : Hid (∀ j, j < k + 1 + 1 → s.data.toList.getD j 0 ≠ 0) := fun j hj => by
              by_cases h : j < k + 1
              · exact HZ1.out j h
              · obtain rfl : j = k + 1 := by omega
                rw [HG2.out, h42b]; decide
            have HST : Hid (rdP s.data.toList = (rdP (s.data.toList.drop (k + 1 + 1))).map ((done ++ [((3, 120) : Pt)]) ++ ·)) := by
              show _ = _
              refine rdP_go (m := 1 + 1) HR.out ?_
              rw [HD.out, c42, drop_at s (k + 1) hlt2, h42b, rdP_ss]
            clear c92 c42 h42 h42b
            go_wp2_with (first
              | (at_builtin; refine wpList_append_pt rfl (.tmp 70) (.tmp 72) 76 82 rfl Tryd.underlying76 Tryd.infoPtR w.heap.size _ (done.map rf1) N rfl HN.out (hown.out.alloc _) wr.heap.size ((3, 0) : Pt) rfl (by simp) (by simp) (by omega) (by simp; omega) ?_; intro sp5 cap5 w5 hown5 hg5))
            have hbe5 := (hbe.out.alloc hbs _).grown hg5 (by simp; omega) (own_baseP hown.out)
            go_roundw
            case rel =>
              refine ⟨k + 1 + 1, N + 1, done ++ [((3, 120) : Pt)], sp5, cap5, by omega, by go_num, by omega, ?_, rfl, HST.out, HZ2.out, ?_, hbe5⟩
              · show _ = _; rw [List.map_append, List.length_append, ← HN.out]; rfl
              · show World.ownsRow _ _ _ _ _ _ _; rw [List.map_append]; exact hown5.out
            case measure => simp [intOf]; omega
          · have HST : Hid (rdP s.data.toList = (rdP (s.data.toList.drop (k + 1))).map ((done ++ [((2, 120) : Pt)]) ++ ·)) := by
              show _ = _
              refine rdP_go (m := 1) HR.out ?_
              rw [HD.out, c42, rdP_s _ h42]
            by_cases hend : k + 1 < s.size
            · have hx : decide ((k : Int) + 1 < (s.size : Int)) = true := by simp; omega
              have q2 : (k : Int) + 1 < (s.size : Int) := by omega
              have t1 : ((s[k + 1].toNat : Int) == 42) = false := by
                refine u8_ne (d := 42) (fun e => h42 ?_)
                rw [drop_at s (k + 1) hend, e]; rfl
              clear c92 c42 h42
              go_wp2_with (first
                | (at_builtin; refine wpList_append_pt rfl (.tmp 74) (.tmp 76) 76 82 rfl Tryd.underlying76 Tryd.infoPtR w.heap.size _ (done.map rf1) N rfl HN.out (hown.out.alloc _) wr.heap.size ((2, 0) : Pt) rfl (by simp) (by simp) (by omega) (by simp; omega) ?_; intro sp5 cap5 w5 hown5 hg5))
              have hbe5 := (hbe.out.alloc hbs _).grown hg5 (by simp; omega) (own_baseP hown.out)
              go_roundw
              case rel =>
                refine ⟨k + 1, N + 1, done ++ [((2, 120) : Pt)], sp5, cap5, by omega, by go_num, by omega, ?_, rfl, HST.out, HZ1.out, ?_, hbe5⟩
                · show _ = _; rw [List.map_append, List.length_append, ← HN.out]; rfl
                · show World.ownsRow _ _ _ _ _ _ _; rw [List.map_append]; exact hown5.out
              case measure => simp [intOf]; omega
            · have hx : decide ((k : Int) + 1 < (s.size : Int)) = false := by simp; omega
              clear c92 c42 h42
              go_wp2_with (first
                | (at_builtin; refine wpList_append_pt rfl (.tmp 74) (.tmp 76) 76 82 rfl Tryd.underlying76 Tryd.infoPtR w.heap.size _ (done.map rf1) N rfl HN.out (hown.out.alloc _) wr.heap.size ((2, 0) : Pt) rfl (by simp) (by simp) (by omega) (by simp; omega) ?_; intro sp5 cap5 w5 hown5 hg5))
              have hbe5 := (hbe.out.alloc hbs _).grown hg5 (by simp; omega) (own_baseP hown.out)
              go_roundw
              case rel =>
                refine ⟨k + 1, N + 1, done ++ [((2, 120) : Pt)], sp5, cap5, by omega, by go_num, by omega, ?_, rfl, HST.out, HZ1.out, ?_, hbe5⟩
                · show _ = _; rw [List.map_append, List.length_append, ← HN.out]; rfl
                · show World.ownsRow _ _ _ _ _ _ _; rw [List.map_append]; exact hown5.out
              case measure => simp [intOf]; omega
        · have t42 : ((s[k].toNat : Int) == 42) = false := u8_ne (d := 42) c42
          by_cases c63 : s[k] = 63
          · have t63 : ((s[k].toNat : Int) == 63) = true := by rw [c63]; rfl
            have HST : Hid (rdP s.data.toList = (rdP (s.data.toList.drop (k + 1))).map ((done ++ [((1, 120) : Pt)]) ++ ·)) := by
              show _ = _
              refine rdP_go (m := 1) HR.out ?_
              rw [HD.out, c63, rdP_q]
            clear c92 c42 c63
            go_wp2_with (first
              | (at_builtin; refine wpList_append_pt rfl (.tmp 80) (.tmp 82) 76 82 rfl Tryd.underlying76 Tryd.infoPtR w.heap.size _ (done.map rf1) N rfl HN.out (hown.out.alloc _) wr.heap.size ((1, 0) : Pt) rfl (by simp) (by simp) (by omega) (by simp; omega) ?_; intro sp5 cap5 w5 hown5 hg5))
            have hbe5 := (hbe.out.alloc hbs _).grown hg5 (by simp; omega) (own_baseP hown.out)
            go_roundw
            case rel =>
              refine ⟨k + 1, N + 1, done ++ [((1, 120) : Pt)], sp5, cap5, by omega, by go_num, by omega, ?_, rfl, HST.out, HZ1.out, ?_, hbe5⟩
              · show _ = _; rw [List.map_append, List.length_append, ← HN.out]; rfl
              · show World.ownsRow _ _ _ _ _ _ _; rw [List.map_append]; exact hown5.out
            case measure => simp [intOf]; omega
          · have t63 : ((s[k].toNat : Int) == 63) = false := u8_ne (d := 63) c63
            have HST : Hid (rdP s.data.toList = (rdP (s.data.toList.drop (k + 1))).map ((done ++ [((0, ((s[k]).toNat : Int)) : Pt)]) ++ ·)) := by
              show _ = _
              refine rdP_go (m := 1) HR.out ?_
              rw [HD.out, rdP_c _ _ c92 c42 c63]
            clear c92 c42 c63
            go_wp2_with (first
              | (at_builtin; refine wpList_append_pt rfl (.tmp 26) (.tmp 29) 76 82 rfl Tryd.underlying76 Tryd.infoPtR w.heap.size _ (done.map rf1) N rfl HN.out (hown.out.alloc _) wr.heap.size ((0, ((s[k]).toNat : Int)) : Pt) rfl (by simp) (by simp) (by omega) (by simp; omega) ?_; intro sp5 cap5 w5 hown5 hg5))
            have hbe5 := (hbe.out.alloc hbs _).grown hg5 (by simp; omega) (own_baseP hown.out)
            go_roundw
            case rel =>
              refine ⟨k + 1, N + 1, done ++ [((0, ((s[k]).toNat : Int)) : Pt)], sp5, cap5, by omega, by go_num, by omega, ?_, rfl, HST.out, HZ1.out, ?_, hbe5⟩
              · show _ = _; rw [List.map_append, List.length_append, ← HN.out]; rfl
              · show World.ownsRow _ _ _ _ _ _ _; rw [List.map_append]; exact hown5.out
            case measure => simp [intOf]; omega
    · obtain rfl : k = s.size := by omega
      have hd : decide ((s.size : Int) < (s.size : Int)) = false := by simp
      have HX : Hid (patL s.data.toList = some done) := by
        show _ = _
        rw [HPO.out (zero_free (fun j hj => HZ.out j (by rw [HLS.out]; exact hj))), HR.out, List.drop_eq_nil_of_le (by rw [← HLS.out]; exact Nat.le_refl _)]; simp [rdP]
      clear HZ HPO HPZ
      go_wp2_with fail
      go_ret2
      unfold RReadRes
      rw [HX.out]
      have h1 := hown.out
      have hlen : N = done.length := by rw [HN.out, List.length_map]
      rw [hlen] at h1 ⊢
      exact ⟨sp, cap, rfl, h1, hbe.out⟩
set_option maxHeartbeats 1000000 in
theorem refValid_any (p : ByteArray) (w : World) :
    Calls Tryd.prog 32 #[.string p] w fun e w' => e = .returned (.bool (validB p)) ∧ Below w.heap.size w w' := by
  have hR : Calls Tryd.prog 54 #[.string p] w fun e w' => ∃ v, e = .returned (.tuple #[v, .bool (validB p)]) ∧ Below w.heap.size w w' := (refRead_any p w).mono fun e w' h => by
    unfold RReadRes at h
    unfold validB
    cases hp : patL p.data.toList with
    | none => rw [hp] at h; exact ⟨_, h.1, h.2⟩
    | some ps => rw [hp] at h; obtain ⟨sp, cap, he, _, hb⟩ := h; exact ⟨_, he, hb⟩
  have HR := Lib.hid hR
  clear hR
  obtain ⟨vb, hvb⟩ : ∃ b, validB p = b := ⟨_, rfl⟩
  rw [hvb] at HR ⊢
  clear hvb
  go_enter Tryd.func32, Tryd.ntmps32
  go_wp2_with fail
  refine HR.out.mono ?_
  rintro e w1 ⟨v, rfl, b1⟩
  go_wp2_with fail
  go_ret
  exact ⟨rfl, b1⟩
end Go.Proofs.YtmafefdchglpbaaDoor
