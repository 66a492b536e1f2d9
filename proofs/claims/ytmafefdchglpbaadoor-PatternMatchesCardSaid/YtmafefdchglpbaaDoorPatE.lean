/-
  The walk of pattern.read: for every string.
-/
import Derived.Test.YtmafefdchglpbaaDoorPatN
import Derived.IntWalk
import Derived.Deep.RegionHeld3
namespace Go.Proofs.YtmafefdchglpbaaDoor
open Go.RowKit

def ReadRes (w : World) (l : List UInt8) (e : Ending) (w' : World) : Prop := match patL l with
  | none => e = .returned (.tuple #[.slice none 0 0, .bool false]) ∧ Below w.heap.size w w'
  | some ps => ∃ sp cap, e = .returned (.tuple #[.slice sp ps.length cap, .bool true]) ∧ w'.ownsRow w.heap.size 93 2 (.slice sp ps.length cap) ps.length (ptC ps) ∧ Below w.heap.size w w'
theorem readRes_none {w : World} {l : List UInt8} {e : Ending} {w' : World} (h : patL l = none) (he : e = .returned (.tuple #[.slice none 0 0, .bool false])) (hb : Below w.heap.size w w') : ReadRes w l e w' := by unfold ReadRes; rw [h]; exact ⟨he, hb⟩
theorem patL_nil (l : List UInt8) (h : l = [] ∨ 200 < l.length ∨ ¬ Lib.indexByte l 0 < 0) : patL l = none := by unfold patL; rw [if_pos h]
theorem drop_at (s : ByteArray) (k : Nat) (h : k < s.size) : s.data.toList.drop k = s[k] :: s.data.toList.drop (k + 1) := by
  rw [List.drop_eq_getElem_cons (by simpa using h)]; rfl
theorem ext_drop (s : ByteArray) (k : Nat) : (s.extract k s.size).data.toList = s.data.toList.drop k := by
  rw [ByteArray.data_extract, Array.toList_extract, List.extract_eq_take_drop]
  exact List.take_of_length_le (by rw [List.length_drop, ← Lib.size_eq]; exact Nat.le_refl _)
set_option maxRecDepth 100000 in
set_option maxHeartbeats 1000000 in
theorem read_any (s : ByteArray) (w : World) :
    Calls Tryd.prog 53 #[.string s] w (ReadRes w s.data.toList) := by
  by_cases he : s.size = 0
  · have HN := Lib.hid (patL_nil s.data.toList (.inl (List.eq_nil_of_length_eq_zero (by rw [← Lib.size_eq]; exact he))))
    have hl : s.toList = [] := by rw [Lib.toList_data]; exact List.eq_nil_of_length_eq_zero (by rw [← Lib.size_eq]; exact he)
    go_enter Tryd.func53, Tryd.ntmps53
    go_wp2_with fail
    go_ret2
    exact readRes_none HN.out rfl (Below.refl _ _)
  have hl : (s.toList == []) = false := by
    rw [Lib.toList_data, beq_eq_false_iff_ne]; intro e; apply he; rw [Lib.size_eq, e]; rfl
  have hl2 : ¬ s.toList = [] := by simpa using hl
  by_cases h200 : 200 < s.size
  · have HN := Lib.hid (patL_nil s.data.toList (.inr (.inl (by rw [← Lib.size_eq]; exact h200))))
    have hd : decide ((s.size : Int) > 200) = true := by simp; omega
    go_enter Tryd.func53, Tryd.ntmps53
    go_wp2_with fail
    go_ret2
    exact readRes_none HN.out rfl (Below.refl _ _)
  have hd : decide ((s.size : Int) > 200) = false := by simp; omega
  obtain ⟨v, hv⟩ : ∃ v, Lib.indexByte s.data.toList 0 = v := ⟨_, rfl⟩
  have hc : ∀ w, Calls Tryd.prog 51 #[.string s, .int .u8 0] w fun e w' => e = .returned (.int .i64 v) ∧ w = w' := fun w => (indexByte_anyP s 0 w).mono fun e w' ⟨he, hw⟩ => ⟨by rw [he, ← hv]; rfl, hw⟩
  have HC := Lib.hid hc; clear hc
  by_cases h0 : v < 0
  · have HP := Lib.hid (patL_of (l := s.data.toList) (fun e => he (by rw [Lib.size_eq, e]; rfl)) (by rw [← Lib.size_eq]; omega) (by rw [hv]; exact h0))
    have hd2 : decide (v ≥ 0) = false := by simp; omega
    have hi := Tryd.infoPt
    have hsz : s.size ≤ 200 := by omega
    clear hv
    go_enter Tryd.func53, Tryd.ntmps53
    go_wp2_with fail
    refine (HC.out _).mono ?_
    rintro e w' ⟨rfl, rfl⟩
    obtain ⟨i0, hi0, hz0, hz1, hz2⟩ := info_parts hi
    have HB0 := Lib.hid (Below.refl w.heap.size w)
    go_wp2_with (refine wpList_make_own w rfl _ _ 73 rfl w.heap.size 93 i0 _ 2 Tryd.underlying73 hi0 hz0 hz1 .i64 .i64 (s.size : Int) s.size rfl rfl rfl (by rw [hz2]; omega) (by unfold maxLen; omega) (Nat.le_refl _) ?_; intro w1 hown1 hg1)
    have HB1 := Lib.hid ((Below.refl w.heap.size w).grown hg1 (Nat.le_refl _) (fun k e => by cases e))
    have HO1 := Lib.hid hown1
    clear hg1 hown1 hi hi0 hz0 hz1 hz2 HC h0 hd2 hl hl2 hd h200 he
    go_loopw [4, 5] (fun v i wr => ∃ (k N : Nat) (done : List Pt) (sp : Option Addr) (cap : Nat), k ≤ s.size ∧ i = .int .i64 k ∧ N ≤ k ∧ Hid (N = done.length) ∧ v = .slice sp N cap ∧ Hid (rdP s.data.toList = (rdP (s.data.toList.drop k)).map (done ++ ·)) ∧ Hid (wr.ownsRow w.heap.size 93 2 (.slice sp N cap) N (ptC done)) ∧ Hid (Below w.heap.size w wr)) (fun _ i _ => s.size - (intOf i).toNat)
    case atStart => exact ⟨0, 0, [], _, _, Nat.zero_le _, rfl, Nat.le_refl _, rfl, rfl, by show _ = _; simp, HO1.out, HB1.out⟩
    case round =>
      clear HO1 HB1
      obtain ⟨k, N, done, sp, cap, hk, rfl, hNk, HN, rfl, HR, hown, hbe⟩ := hrel
      have hbs := hbe.out.size
      by_cases hlt : k < s.size
      · have hd : decide ((k : Int) < (s.size : Int)) = true := by simp; omega
        have p1 : (0 : Int) ≤ (k : Int) := by omega
        have p2 : (k : Int) < (s.size : Int) := by omega
        have p3 : (k : Int) ≤ (s.size : Int) := by omega
        have HD := Lib.hid (drop_at s k hlt)
        by_cases c92 : s[k] = 92
        · have HC := Lib.hid c92
          have t92 : ((s[k].toNat : Int) == 92) = true := by rw [c92]; rfl
          by_cases hend : k + 1 = s.size
          · have hx : ((k : Int) + 1 == (s.size : Int)) = true := by rw [beq_iff_eq]; omega
            have HX : Hid (patL s.data.toList = none) := by
              show _ = _
              rw [HP.out, HR.out, HD.out, c92, List.drop_eq_nil_of_le (by rw [← Lib.size_eq]; omega), rdP_cons_esc_end]; rfl
            have hend2 : ((s.size : Int) = (k : Int) + 1) := by omega
            clear c92 hend hend2
            go_wp2_with fail
            go_ret2
            exact readRes_none HX.out rfl hbe.out
          · have hx : ((k : Int) + 1 == (s.size : Int)) = false := by rw [beq_eq_false_iff_ne]; omega
            have hlt2 : k + 1 < s.size := by omega
            have q1 : (0 : Int) ≤ (k : Int) + 1 := by omega
            have q2 : (k : Int) + 1 < (s.size : Int) := by omega
            have q3 : ((k : Int) + 1).toNat = k + 1 := by omega
            have HST : Hid (rdP s.data.toList = (rdP (s.data.toList.drop (k + 1 + 1))).map ((done ++ [((0, ((s[k + 1]).toNat : Int)) : Pt)]) ++ ·)) := by
              show _ = _
              refine rdP_go (m := 1 + 1) HR.out ?_
              rw [HD.out, c92, drop_at s (k + 1) hlt2, rdP_esc]
            clear c92 hend
            go_wp2_with (first
              | (at_builtin; refine wpList_append_pt rfl (.tmp 53) (.tmp 58) 73 93 rfl Tryd.underlying73 Tryd.infoPt w.heap.size _ done N rfl HN.out (hown.out.alloc _) wr.heap.size ((0, ((s[k + 1]).toNat : Int)) : Pt) rfl (by simp) (by simp) (by omega) (by simp; omega) ?_; intro sp5 cap5 w5 hown5 hg5))
            have hbe5 := (hbe.out.alloc hbs _).grown hg5 (by simp; omega) (own_baseP hown.out)
            go_roundw
            case rel => exact ⟨k + 1 + 1, N + 1, done ++ [((0, ((s[k + 1]).toNat : Int)) : Pt)], sp5, cap5, by omega, by go_num, by omega, by show _ = _; rw [List.length_append, ← HN.out]; rfl, rfl, HST.out, hown5, hbe5⟩
            case measure => simp [intOf]; omega
        · have t92 : ((s[k].toNat : Int) == 92) = false := by
            rw [beq_eq_false_iff_ne]; intro e; apply c92; apply UInt8.toNat_inj.1; show s[k].toNat = 92; omega
          have HPX := Lib.hid (fun w => prefix_any (s.extract k s.size) w (by rw [ByteArray.size_extract]; omega))
          have HT : Hid ((s.extract k s.size).data.toList.take 2 = s[k] :: (s.data.toList.drop (k + 1)).take 1) := by
            show _ = _; rw [ext_drop, HD.out]; rfl
          by_cases c42 : s[k] = 42
          · have t42 : ((s[k].toNat : Int) == 42) = true := by rw [c42]; rfl
            by_cases h42 : (s.data.toList.drop (k + 1)).head? = some 42
            · have hlt2 : k + 1 < s.size := by
                rcases Nat.lt_or_ge (k + 1) s.size with h | h
                · exact h
                · rw [List.drop_eq_nil_of_le (by rw [← Lib.size_eq]; omega)] at h42; cases h42
              have h42b : s[k + 1] = 42 := by rw [drop_at s (k + 1) hlt2] at h42; simpa using h42
              have HB : Hid (decide ((s.extract k s.size).data.toList.take 2 = [42, 42]) = true) := by
                show _ = _; rw [HT.out, c42, drop_at s (k + 1) hlt2, h42b]; rfl
              have HST : Hid (rdP s.data.toList = (rdP (s.data.toList.drop (k + 1 + 1))).map ((done ++ [((3, 120) : Pt)]) ++ ·)) := by
                show _ = _
                refine rdP_go (m := 1 + 1) HR.out ?_
                rw [HD.out, c42, drop_at s (k + 1) hlt2, h42b, rdP_ss]
              have hcall : ∀ w, Calls Tryd.prog 75 #[.string (s.extract k s.size), .string stB] w fun e w' => e = .returned (.bool true) ∧ w = w' := fun w => (HPX.out w).mono fun e w' ⟨he, hw⟩ => ⟨by rw [he, HB.out], hw⟩
              have HCL := Lib.hid hcall
              clear hcall c92 c42 h42 h42b
              go_wp2_with (first
                | (at_builtin; refine wpList_append_pt rfl (.tmp 67) (.tmp 69) 73 93 rfl Tryd.underlying73 Tryd.infoPt w.heap.size _ done N rfl HN.out (hown.out.alloc _) wr.heap.size ((3, 120) : Pt) rfl (by simp) (by simp) (by omega) (by simp; omega) ?_; intro sp5 cap5 w5 hown5 hg5)
                | (go_at_call 75; refine (HCL.out _).mono ?_; rintro e w6 ⟨rfl, rfl⟩))
              have hbe5 := (hbe.out.alloc hbs _).grown hg5 (by simp; omega) (own_baseP hown.out)
              go_roundw
              case rel => exact ⟨k + 1 + 1, N + 1, done ++ [((3, 120) : Pt)], sp5, cap5, by omega, by go_num, by omega, by show _ = _; rw [List.length_append, ← HN.out]; rfl, rfl, HST.out, hown5, hbe5⟩
              case measure => simp [intOf]; omega
            · have HB : Hid (decide ((s.extract k s.size).data.toList.take 2 = [42, 42]) = false) := by
                show _ = _; rw [HT.out, decide_eq_false_iff_not]
                intro e
                apply h42
                cases hh : s.data.toList.drop (k + 1) with
                | nil => rw [hh] at e; simp at e
                | cons y r => rw [hh] at e; simp at e; rw [e.2]; rfl
              have HST : Hid (rdP s.data.toList = (rdP (s.data.toList.drop (k + 1))).map ((done ++ [((2, 120) : Pt)]) ++ ·)) := by
                show _ = _
                refine rdP_go (m := 1) HR.out ?_
                rw [HD.out, c42, rdP_s _ h42]
              have hcall : ∀ w, Calls Tryd.prog 75 #[.string (s.extract k s.size), .string stB] w fun e w' => e = .returned (.bool false) ∧ w = w' := fun w => (HPX.out w).mono fun e w' ⟨he, hw⟩ => ⟨by rw [he, HB.out], hw⟩
              have HCL := Lib.hid hcall
              clear hcall c92 c42 h42
              go_wp2_with (first
                | (at_builtin; refine wpList_append_pt rfl (.tmp 76) (.tmp 78) 73 93 rfl Tryd.underlying73 Tryd.infoPt w.heap.size _ done N rfl HN.out (hown.out.alloc _) wr.heap.size ((2, 120) : Pt) rfl (by simp) (by simp) (by omega) (by simp; omega) ?_; intro sp5 cap5 w5 hown5 hg5)
                | (go_at_call 75; refine (HCL.out _).mono ?_; rintro e w6 ⟨rfl, rfl⟩))
              have hbe5 := (hbe.out.alloc hbs _).grown hg5 (by simp; omega) (own_baseP hown.out)
              go_roundw
              case rel => exact ⟨k + 1, N + 1, done ++ [((2, 120) : Pt)], sp5, cap5, by omega, by go_num, by omega, by show _ = _; rw [List.length_append, ← HN.out]; rfl, rfl, HST.out, hown5, hbe5⟩
              case measure => simp [intOf]; omega
          · have t42 : ((s[k].toNat : Int) == 42) = false := by
              rw [beq_eq_false_iff_ne]; intro e; apply c42; apply UInt8.toNat_inj.1; show s[k].toNat = 42; omega
            have HB : Hid (decide ((s.extract k s.size).data.toList.take 2 = [42, 42]) = false) := by
              show _ = _; rw [HT.out, decide_eq_false_iff_not]
              intro e; injection e with e1 e2; exact c42 e1
            have hcall : ∀ w, Calls Tryd.prog 75 #[.string (s.extract k s.size), .string stB] w fun e w' => e = .returned (.bool false) ∧ w = w' := fun w => (HPX.out w).mono fun e w' ⟨he, hw⟩ => ⟨by rw [he, HB.out], hw⟩
            have HCL := Lib.hid hcall
            clear hcall
            by_cases c63 : s[k] = 63
            · have t63 : ((s[k].toNat : Int) == 63) = true := by rw [c63]; rfl
              have HST : Hid (rdP s.data.toList = (rdP (s.data.toList.drop (k + 1))).map ((done ++ [((1, 120) : Pt)]) ++ ·)) := by
                show _ = _
                refine rdP_go (m := 1) HR.out ?_
                rw [HD.out, c63, rdP_q]
              clear c92 c42 c63
              go_wp2_with (first
                | (at_builtin; refine wpList_append_pt rfl (.tmp 85) (.tmp 87) 73 93 rfl Tryd.underlying73 Tryd.infoPt w.heap.size _ done N rfl HN.out (hown.out.alloc _) wr.heap.size ((1, 120) : Pt) rfl (by simp) (by simp) (by omega) (by simp; omega) ?_; intro sp5 cap5 w5 hown5 hg5)
                | (go_at_call 75; refine (HCL.out _).mono ?_; rintro e w6 ⟨rfl, rfl⟩))
              have hbe5 := (hbe.out.alloc hbs _).grown hg5 (by simp; omega) (own_baseP hown.out)
              go_roundw
              case rel => exact ⟨k + 1, N + 1, done ++ [((1, 120) : Pt)], sp5, cap5, by omega, by go_num, by omega, by show _ = _; rw [List.length_append, ← HN.out]; rfl, rfl, HST.out, hown5, hbe5⟩
              case measure => simp [intOf]; omega
            · have t63 : ((s[k].toNat : Int) == 63) = false := by
                rw [beq_eq_false_iff_ne]; intro e; apply c63; apply UInt8.toNat_inj.1; show s[k].toNat = 63; omega
              have HST : Hid (rdP s.data.toList = (rdP (s.data.toList.drop (k + 1))).map ((done ++ [((0, ((s[k]).toNat : Int)) : Pt)]) ++ ·)) := by
                show _ = _
                refine rdP_go (m := 1) HR.out ?_
                rw [HD.out, rdP_c _ _ c92 c42 c63]
              clear c92 c42 c63
              go_wp2_with (first
                | (at_builtin; refine wpList_append_pt rfl (.tmp 27) (.tmp 32) 73 93 rfl Tryd.underlying73 Tryd.infoPt w.heap.size _ done N rfl HN.out (hown.out.alloc _) wr.heap.size ((0, ((s[k]).toNat : Int)) : Pt) rfl (by simp) (by simp) (by omega) (by simp; omega) ?_; intro sp5 cap5 w5 hown5 hg5)
                | (go_at_call 75; refine (HCL.out _).mono ?_; rintro e w6 ⟨rfl, rfl⟩))
              have hbe5 := (hbe.out.alloc hbs _).grown hg5 (by simp; omega) (own_baseP hown.out)
              go_roundw
              case rel => exact ⟨k + 1, N + 1, done ++ [((0, ((s[k]).toNat : Int)) : Pt)], sp5, cap5, by omega, by go_num, by omega, by show _ = _; rw [List.length_append, ← HN.out]; rfl, rfl, HST.out, hown5, hbe5⟩
              case measure => simp [intOf]; omega
      · obtain rfl : k = s.size := by omega
        have hd : decide ((s.size : Int) < (s.size : Int)) = false := by simp
        have HX : Hid (patL s.data.toList = some done) := by
          show _ = _
          rw [HP.out, HR.out, List.drop_eq_nil_of_le (by rw [← Lib.size_eq]; exact Nat.le_refl _)]; simp [rdP]
        go_wp2_with fail
        go_ret2
        unfold ReadRes
        rw [HX.out]
        have h1 := hown.out
        rw [HN.out] at h1 ⊢
        exact ⟨sp, cap, rfl, h1, hbe.out⟩
  · have HN := Lib.hid (patL_nil s.data.toList (.inr (.inr (by rw [hv]; exact h0))))
    have hd2 : decide (v ≥ 0) = true := by simp; omega
    clear hv
    go_enter Tryd.func53, Tryd.ntmps53
    go_wp2_with fail
    refine (HC.out _).mono ?_
    rintro e w' ⟨rfl, rfl⟩
    go_wp2_with fail
    go_ret2
    exact readRes_none HN.out rfl (Below.refl _ _)
end Go.Proofs.YtmafefdchglpbaaDoor
