/-
  The walks of the reference's Literal and of pattern.Valid: for every string.
-/
import Derived.Test.YtmafefdchglpbabDoorPatU
import Derived.Test.YtmafefdchglpbabDoorPatR
namespace Go.Proofs.YtmafefdchglpbabDoor
open Go.RowKit

theorem u8_ne {c d : UInt8} (h : ¬ c = d) : ((c.toNat : Int) == (d.toNat : Int)) = false := by
  rw [beq_eq_false_iff_ne]; intro e; apply h; apply UInt8.toNat_inj.1; omega
set_option maxRecDepth 100000 in
set_option maxHeartbeats 1000000 in
theorem refLiteral_any (s : ByteArray) (w : World) :
    Calls Tryd.prog 15 #[.string s] w fun e w' => e = .returned (.string (litB s)) ∧ Below w.heap.size w w' := by
  have HP := Lib.hid (fun w => refPath_any s w)
  have HL : Hid (litB s = if pathB s = true then ⟨(litL s.data.toList).toArray⟩ else ⟨#[]⟩) := rfl
  have hps := pathB_size (s := s)
  obtain ⟨pb, hpb⟩ : ∃ b, pathB s = b := ⟨_, rfl⟩
  rw [hpb] at HP HL hps
  clear hpb
  cases pb
  · clear hps
    have HX : Hid (litB s = ⟨#[]⟩) := by show _ = _; rw [HL.out, if_neg (by simp)]
    clear HL
    go_enter Tryd.func15, Tryd.ntmps15
    go_wp2_with fail
    refine (HP.out _).mono ?_
    rintro e w1 ⟨rfl, b1⟩
    go_wp2_with fail
    go_ret
    exact ⟨by rw [HX.out]; rfl, b1⟩
  · have hsz := hps rfl
    have HX : Hid (litB s = ⟨(litL s.data.toList).toArray⟩) := by show _ = _; rw [HL.out, if_pos rfl]
    clear HL hps
    go_enter Tryd.func15, Tryd.ntmps15
    go_wp2_with fail
    refine (HP.out _).mono ?_
    rintro e w1 ⟨rfl, b1⟩
    have HB1 := Lib.hid b1
    have hz1 := b1.size
    clear b1
    go_wp2_with fail
    go_loopw [3, 4] (fun v i wr => ∃ (k N : Nat) (sp : Option Addr) (cap : Nat), k ≤ s.size ∧ i = .int .i64 k ∧ N ≤ 400 ∧ Hid (N = (litL (s.data.toList.take k)).length) ∧ v = .slice sp N cap ∧ Hid (wr.ownsRow w.heap.size 5 1 (.slice sp N cap) N (Lib.byteCells (litL (s.data.toList.take k)))) ∧ Hid (Below w.heap.size w wr)) (fun _ i _ => s.size - (intOf i).toNat)
    case atStart => exact ⟨0, 0, none, 0, Nat.zero_le _, rfl, by omega, rfl, rfl, World.ownsRow_nil _ _ _ _, HB1.out⟩
    case round =>
      clear HB1
      obtain ⟨k, N, sp, cap, hk, rfl, hN4, HN, rfl, hown, hbe⟩ := hrel
      have hbs := hbe.out.size
      by_cases hlt : k < s.size
      · have hd : decide ((k : Int) < (s.size : Int)) = true := by simp; omega
        have p1 : (0 : Int) ≤ (k : Int) := by omega
        have p2 : (k : Int) < (s.size : Int) := by omega
        have HS := Lib.hid (litL_succ s k hlt)
        have hN5 : (litL (s.data.toList.take (k + 1))).length ≤ 400 := by
          have h1 := litL_le (s.data.toList.take (k + 1))
          have h2 : (s.data.toList.take (k + 1)).length ≤ k + 1 := List.length_take_le _ _
          omega
        rw [HS.out, List.length_append, ← HN.out] at hN5
        obtain ⟨T, hT⟩ : ∃ T, litL (s.data.toList.take k) = T := ⟨_, rfl⟩
        rw [hT] at HN hown HS
        clear hT
        have hcs : (spB s[k] = false ∧ ((s[k].toNat : Int) == 92) = false ∧ ((s[k].toNat : Int) == 42) = false ∧ ((s[k].toNat : Int) == 63) = false) ∨
            (spB s[k] = true ∧ (((s[k].toNat : Int) == 92) = true ∨ (((s[k].toNat : Int) == 92) = false ∧ ((s[k].toNat : Int) == 42) = true) ∨ (((s[k].toNat : Int) == 92) = false ∧ ((s[k].toNat : Int) == 42) = false ∧ ((s[k].toNat : Int) == 63) = true))) := by
          by_cases h1 : s[k] = 92
          · exact .inr ⟨by unfold spB; rw [h1]; rfl, .inl (by rw [h1]; rfl)⟩
          · by_cases h2 : s[k] = 42
            · exact .inr ⟨by unfold spB; rw [h2]; rfl, .inr (.inl ⟨u8_ne (d := 92) h1, by rw [h2]; rfl⟩)⟩
            · by_cases h3 : s[k] = 63
              · exact .inr ⟨by unfold spB; rw [h3]; rfl, .inr (.inr ⟨u8_ne (d := 92) h1, u8_ne (d := 42) h2, by rw [h3]; rfl⟩)⟩
              · exact .inl ⟨by unfold spB; simp [h1, h2, h3], u8_ne (d := 92) h1, u8_ne (d := 42) h2, u8_ne (d := 63) h3⟩
        rcases hcs with ⟨hsp, t1, t2, t3⟩ | ⟨hsp, hcs⟩
        · have HL1 : Hid (lit1 s[k] = [s[k]]) := by show _ = _; unfold lit1; rw [if_neg (by rw [hsp]; simp)]
          rw [HL1.out] at hN5 HS
          clear hsp
          go_wp2_with (first
            | (at_builtin; refine wpList_append_b1 rfl (.tmp 33) (.tmp 37) 38 5 rfl Tryd.underlying38 Tryd.infoBy w.heap.size _ T N rfl HN.out (hown.out.alloc _) wr.heap.size s[k] rfl (by simp) (by omega) (by simp; omega) ?_; intro sp5 cap5 w5 hown5 hg5))
          have hbe5 := (hbe.out.alloc hbs (.cells #[.int .u8 (s[k].toNat : Int)] 5)).grown hg5 (by simp; omega) (own_baseP hown.out)
          go_roundw
          case rel => exact ⟨k + 1, N + 1, sp5, cap5, by omega, by go_num, hN5, by show _ = _; rw [HS.out, List.length_append, ← HN.out]; rfl, rfl, by rw [HS.out]; exact hown5, hbe5⟩
          case measure => simp [intOf]; omega
        · have HL1 : Hid (lit1 s[k] = [92, s[k]]) := by show _ = _; unfold lit1; rw [if_pos hsp]
          rw [HL1.out] at hN5 HS
          clear hsp
          rcases hcs with t1 | ⟨t1, t2⟩ | ⟨t1, t2, t3⟩
          all_goals
            go_wp2_with (first
              | (at_builtin; refine wpList_append_b1 rfl (.tmp 30) (.tmp 31) 38 5 rfl Tryd.underlying38 Tryd.infoBy w.heap.size _ T N rfl HN.out (hown.out.alloc _) wr.heap.size 92 rfl (by simp) (by omega) (by simp; omega) ?_; intro sp4 cap4 w4 hown4 hg4; have hz4 := hg4.size; rw [World.size_alloc] at hz4; have HN4 : Hid (N + 1 = (T ++ [92]).length) := (by show _ = _; rw [List.length_append, ← HN.out]; rfl))
              | (at_builtin; refine wpList_append_b1 rfl (.tmp 33) (.tmp 37) 38 5 rfl Tryd.underlying38 Tryd.infoBy w.heap.size _ (T ++ [92]) (N + 1) rfl HN4.out (hown4.out.alloc _) w4.heap.size s[k] rfl (by simp) (by omega) (by simp; omega) ?_; intro sp5 cap5 w5 hown5 hg5))
            have hbe4 := (hbe.out.alloc hbs (.cells #[.int .u8 92] 5)).grown hg4 (by simp; omega) (own_baseP hown.out)
            have hbe5 := (hbe4.alloc (by omega) (.cells #[.int .u8 (s[k].toNat : Int)] 5)).grown hg5 (by simp; omega) (own_baseP hown4.out)
            go_roundw
            case rel =>
              refine ⟨k + 1, N + 1 + 1, sp5, cap5, by omega, by go_num, hN5, ?_, rfl, ?_, hbe5⟩
              · show _ = _; rw [HS.out, List.length_append, ← HN.out]; rfl
              · rw [HS.out]
                have := hown5.out
                show World.ownsRow _ _ _ _ _ _ _
                rw [List.append_assoc] at this
                exact this
            case measure => simp [intOf]; omega
      · obtain rfl : k = s.size := by omega
        have hd : decide ((s.size : Int) < (s.size : Int)) = false := by simp
        have HALL : Hid (s.data.toList.take s.size = s.data.toList) := List.take_of_length_le (by rw [← Lib.size_eq]; exact Nat.le_refl _)
        rw [HALL.out] at HN hown
        have hcv := run_string_ownP hown.out HN.out
        obtain ⟨T, hT⟩ : ∃ T, litL s.data.toList = T := ⟨_, rfl⟩
        rw [hT] at hcv HX
        clear hT hown HALL
        go_wp2_with fail
        go_ret
        exact ⟨by rw [HX.out]; rfl, hbe.out⟩
def validB (p : ByteArray) : Bool := (patL p.data.toList).isSome
set_option maxHeartbeats 1000000 in
theorem Valid_any (p : ByteArray) (w : World) :
    Calls Tryd.prog 10 #[.string p] w fun e w' => e = .returned (.bool (validB p)) ∧ Below w.heap.size w w' := by
  have hR : Calls Tryd.prog 23 #[.string p] w fun e w' => ∃ v, e = .returned (.tuple #[v, .bool (validB p)]) ∧ Below w.heap.size w w' := (read_any p w).mono fun e w' h => by
    unfold ReadRes at h
    unfold validB
    cases hp : patL p.data.toList with
    | none => rw [hp] at h; exact ⟨_, h.1, h.2⟩
    | some ps => rw [hp] at h; obtain ⟨sp, cap, he, _, hb⟩ := h; exact ⟨_, he, hb⟩
  have HR := Lib.hid hR
  clear hR
  obtain ⟨vb, hvb⟩ : ∃ b, validB p = b := ⟨_, rfl⟩
  rw [hvb] at HR ⊢
  clear hvb
  go_enter Tryd.func10, Tryd.ntmps10
  go_wp2_with fail
  refine HR.out.mono ?_
  rintro e w1 ⟨v, rfl, b1⟩
  go_wp2_with fail
  go_ret
  exact ⟨rfl, b1⟩
end Go.Proofs.YtmafefdchglpbabDoor
