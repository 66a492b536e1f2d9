/-
  The walk of the reference's unhex (condition: at most 64 bytes are asked).
-/
import Derived.Test.YtmafefdchglpbaaDoorHexH
import Derived.IntWalk
import Derived.Deep.RegionHeld3
namespace Go.Proofs.YtmafefdchglpbaaDoor
open Go.RowKit

def UnhRes (w : World) (l : List UInt8) (n : Nat) (e : Ending) (w' : World) : Prop :=
  ∃ sp cap, e = .returned (.tuple #[.slice sp (if pok l n = true then n else 0) cap, .bool (pok l n)]) ∧ Src w' w'.heap.size sp (if pok l n = true then n else 0) cap (if pok l n = true then hbs l n else []) ∧ Below w.heap.size w w' ∧ ∀ a, sp = some a → w.heap.size ≤ a.block
theorem hbs_byt0 {l : List UInt8} {n : Nat} (h : ∀ i, i < n → hexv (l.getD (2 * i) 0) < 16 ∧ hexv (l.getD (2 * i + 1) 0) < 16) : Byt (hbs l n) := fun x hx => by
  unfold hbs at hx
  obtain ⟨i, hi, rfl⟩ := List.mem_map.1 hx
  have := h i (by simpa using hi)
  unfold hby; omega
theorem hok_at0 {l : List UInt8} {n : Nat} (h : hok l n = true) (i : Nat) (hi : i < n) : hexv (l.getD (2 * i) 0) < 16 ∧ hexv (l.getD (2 * i + 1) 0) < 16 := by
  unfold hok at h
  have := (List.all_eq_true.1 h) i (by simpa using hi)
  unfold hok1 at this
  simpa using this
theorem src_nil (w : World) : Src w w.heap.size none 0 0 [] := ⟨rfl, (fun x hx => by cases hx), fun h => absurd h (by omega)⟩
set_option maxRecDepth 100000 in
set_option maxHeartbeats 1000000 in
theorem refUnhex_any (s : ByteArray) (n : Nat) (w : World) (hn : n ≤ 64) :
    Calls Tryd.prog 37 #[.string s, .int .i64 (n : Int)] w (UnhRes w s.data.toList n) := by
  by_cases hsz : s.size = 2 * n
  · have HPK : Hid (pok s.data.toList n = hok s.data.toList n) := by show _ = _; unfold pok; rw [← Lib.size_eq, decide_eq_true hsz]; rfl
    have ht : ((s.size : Int) != 2 * (n : Int)) = false := by rw [bne_eq_false_iff_eq]; omega
    go_enter Tryd.func37, Tryd.ntmps37
    go_wp2_with fail
    go_loopw [6, 7] (fun v i wr => ∃ (k N : Nat) (sp' : Option Addr) (cap' : Nat), k ≤ n ∧ i = .int .i64 k ∧ Hid (N = k) ∧ N ≤ 64 ∧ v = .slice sp' N cap' ∧ Hid (hok s.data.toList k = true) ∧ Hid (wr.ownsRow w.heap.size 5 1 (.slice sp' N cap') N ((hbs s.data.toList k).map (Value.int .u8))) ∧ Hid (Below w.heap.size w wr)) (fun _ i _ => n - (intOf i).toNat)
    case atStart => exact ⟨0, 0, none, 0, by omega, rfl, rfl, by omega, rfl, rfl, World.ownsRow_nil _ _ _ _, Below.refl _ _⟩
    case round =>
      obtain ⟨k, N, sp', cap', hk, rfl, hN, hNb, rfl, hok0, hown, hbe⟩ := hrel
      have hwz := hbe.out.size
      by_cases hlt : k < n
      · have hd : decide ((k : Int) < (n : Int)) = true := by simp; omega
        have p0 : 2 * k < s.size := by omega
        have p1 : 2 * k + 1 < s.size := by omega
        have p2 : (0 : Int) ≤ (k : Int) := by omega
        have p4 : (0 : Int) ≤ 2 * (k : Int) := by omega
        have p5 : 2 * (k : Int) < (s.size : Int) := by omega
        have p6 : (0 : Int) ≤ 2 * (k : Int) + 1 := by omega
        have p7 : 2 * (k : Int) + 1 < (s.size : Int) := by omega
        have p8 : (2 * (k : Int)).toNat = 2 * k := by omega
        have p9 : (2 * (k : Int) + 1).toNat = 2 * k + 1 := by omega
        have q1 : IntKind.i64.wrap (2 * (k : Int)) = 2 * (k : Int) := IntWalk.i64_in _ (by omega)
        have q2 : IntKind.i64.wrap (2 * (k : Int) + 1) = 2 * (k : Int) + 1 := IntWalk.i64_in _ (by omega)
        have g0 := getD_data s (2 * k) p0
        have g1 := getD_data s (2 * k + 1) p1
        have hl0 := hexv_le s[2 * k]
        have hl1 := hexv_le s[2 * k + 1]
        obtain ⟨x, hx⟩ : ∃ x, hexv s[2 * k] = x := ⟨_, rfl⟩
        obtain ⟨z, hz⟩ : ∃ z, hexv s[2 * k + 1] = z := ⟨_, rfl⟩
        have HO1 : Hid (hok1 s.data.toList k = (decide (x < 16) && decide (z < 16))) := by show _ = _; unfold hok1; rw [g0, g1, hx, hz]
        have HBY : Hid (hby s.data.toList k = ((16 * x + z : Nat) : Int)) := by show _ = _; unfold hby; rw [g0, g1, hx, hz]
        have HC0 := Lib.hid (fun w => refValue_any s[2 * k] w)
        have HC1 := Lib.hid (fun w => refValue_any s[2 * k + 1] w)
        rw [hx] at HC0 hl0
        rw [hz] at HC1 hl1
        have HSUC := Lib.hid (hok_succ s.data.toList k)
        have HBS := Lib.hid (hbs_succ s.data.toList k)
        have HLN : Hid (N = (hbs s.data.toList k).length) := by show _ = _; rw [hbs_length]; exact hN.out
        clear g0 g1 hx hz
        by_cases hbad : x = 16 ∨ z = 16
        · have HF : Hid (pok s.data.toList n = false) := by show _ = _; rw [HPK.out, hok_bad (k := k) (by rw [HO1.out]; rcases hbad with h | h <;> simp [h]) hlt]
          have e1 : (((x : Int) == 16) || ((z : Int) == 16)) = true := by rcases hbad with h | h <;> simp [h]
          have hcs : ((x : Int) == 16) = true ∨ (((x : Int) == 16) = false ∧ ((z : Int) == 16) = true) := by
            by_cases h : x = 16
            · left; simp [h]
            · right
              rcases hbad with h2 | h2
              · exact absurd h2 h
              · exact ⟨by simp; omega, by simp [h2]⟩
          clear hbad HO1 HBY HSUC e1
          rcases hcs with e1 | ⟨e1, e2⟩
          all_goals
            go_wp2_with fail
            go_region_held3 (fun _ => True) (trivial) (first
              | (go_at_call 59; (with_reducible refine (HC0.out _).mono ?_); rintro e w5 ⟨rfl, rfl⟩)
              | (go_at_call 59; (with_reducible refine (HC1.out _).mono ?_); rintro e w5 ⟨rfl, rfl⟩))
            all_goals
              go_wp2_with fail
              go_ret2
              refine ⟨none, 0, ?_, ?_, hbe.out.drew, fun a h => by cases h⟩
              · rw [HF.out]; rfl
              · rw [HF.out]; exact src_nil _
        · have hx16 : x < 16 := by omega
          have hz16 : z < 16 := by omega
          have e1 : ((x : Int) == 16) = false := by simp; omega
          have e2 : ((z : Int) == 16) = false := by simp; omega
          have HOK : Hid (hok s.data.toList (k + 1) = true) := by show _ = _; rw [HSUC.out, hok0.out, HO1.out, decide_eq_true hx16, decide_eq_true hz16]; rfl
          obtain ⟨m, hm⟩ : ∃ m, 16 * x + z = m := ⟨_, rfl⟩
          rw [hm] at HBY
          have hm256 : m < 256 := by omega
          have r1 : 16 * (x : Int) + (z : Int) = (m : Int) := by omega
          have r2 : ((m : Nat) : Int) % 256 = (m : Int) := by omega
          clear HO1 HSUC hbad hm
          go_wp2_with fail
          go_region_held3 (fun _ => True) (trivial) (first
            | (go_at_call 59; (with_reducible refine (HC0.out _).mono ?_); rintro e w5 ⟨rfl, rfl⟩)
            | (go_at_call 59; (with_reducible refine (HC1.out _).mono ?_); rintro e w5 ⟨rfl, rfl⟩))
          all_goals
            go_wp2_with (at_builtin; refine wpList_append_byte rfl (.tmp 37) (.tmp 43) 34 5 rfl Tryd.underlying34 Tryd.info5a w.heap.size _ (hbs s.data.toList k) N rfl HLN.out (hown.out.drew.alloc _) wr.heap.size (m : Int) rfl (by simp) (by omega) (by simp; omega) ?_; intro sp5 cap5 w5 hown5 hg5)
            have hbe5 := (hbe.out.drew.alloc hwz (.cells #[.int .u8 (m : Int)] 5)).grown hg5 (by simp; omega) (own_baseC hown.out)
            go_roundw
            case rel =>
              refine ⟨k + 1, N + 1, sp5, cap5, by omega, by go_num, by show _ = _; have := hN.out; omega, by have := hN.out; omega, rfl, HOK, ?_, hbe5⟩
              have := hown5.out
              show World.ownsRow _ _ _ _ _ _ _
              rw [HBS.out, HBY.out]; exact this
            case measure => simp [intOf]; omega
      · obtain rfl : k = n := by omega
        have hd : decide ((k : Int) < (k : Int)) = false := by simp
        have HT : Hid (pok s.data.toList k = true) := by show _ = _; rw [HPK.out, hok0.out]
        have hN2 := hN.out
        have hln : (hbs s.data.toList k).length = N := by rw [hbs_length]; exact hN2.symm
        have ho : wr.ownsRow w.heap.size 5 1 (.slice sp' N cap') (hbs s.data.toList k).length ((hbs s.data.toList k).map (Value.int .u8)) := by rw [hln]; exact hown.out
        obtain ⟨sp7, cap7, e7, hsrc, _⟩ := src_of_own ho (hbs_byt0 (fun i hi => hok_at0 hok0.out i hi))
        rw [hln] at e7 hsrc
        injection e7 with e1 e2 e3
        subst e1 e3
        rw [hN2] at hsrc
        have HSRC := Lib.hid hsrc
        have HBS : Hid (∀ a, sp' = some a → w.heap.size ≤ a.block) := fun a ha => own_baseC ho a.block (by rw [ha]; rfl)
        have HN := Lib.hid hN2
        clear hsrc ho hln hN2 hN hown hsz
        go_wp2_with fail
        go_ret2
        refine ⟨sp', cap', ?_, ?_, hbe.out, HBS.out⟩
        · rw [HT.out, if_pos rfl, ← HN.out]; rfl
        · rw [HT.out, if_pos rfl, if_pos rfl]; exact HSRC.out
  · have ht : ((s.size : Int) != 2 * (n : Int)) = true := by rw [bne_iff_ne]; omega
    have hz : pok s.data.toList n = false := by unfold pok; rw [← Lib.size_eq, decide_eq_false hsz]; rfl
    unfold UnhRes
    rw [hz]
    clear hz hsz
    go_enter Tryd.func37, Tryd.ntmps37
    go_wp2
    go_ret2
    exact ⟨none, 0, rfl, src_nil _, Below.refl _ _, fun a h => by cases h⟩
end Go.Proofs.YtmafefdchglpbaaDoor
