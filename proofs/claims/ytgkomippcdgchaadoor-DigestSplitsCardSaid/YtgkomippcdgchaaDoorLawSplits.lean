/-
  The walk of the statement DigestSplits: it returns true for every argument that reads as a list of digests (the table of constants reads as it is laid).
-/
import Derived.Test.YtgkomippcdgchaaDoorTreeA
namespace Go.Proofs.YtgkomippcdgchaaDoor
open Go.RowKit

theorem eql_dv (x y : List Int) (hx : x.length = 32) (h : x = y) (w : World) : (binOp .eql 25 (.agg (dv x)) (.agg (dv y))).run Tryd.prog w = .ok (.bool true) w := by
  subst h
  have := eql_digest x x hx hx w
  simpa [dv] using this

set_option maxRecDepth 100000 in
set_option maxHeartbeats 4000000 in
theorem splits_zero (da : Option Addr) (n cap : Nat) (l : List (List Int)) (w : World) (hl : DigsIn w w.heap.size da n cap l) (hk : KayIn w) (hk0 : 0 < w.heap.size) (h0 : n = 0) :
    Calls Tryd.prog 7 #[.slice da n cap] w fun e w' => e = .returned (.bool true) ∧ Below w.heap.size w w' := by
  have HL := Lib.hid hl; have HK := Lib.hid hk; clear hl hk
  subst h0
  have hlz : tree l = List.replicate 32 0 := tree_zero l HL.out.len
  have HTr := Lib.hid (Tree_any 0 da 0 cap l)
  have heq : ∀ w, (binOp .eql 25 (.agg (dv (List.replicate 32 0))) (.agg #[.int .u8 0, .int .u8 0, .int .u8 0, .int .u8 0, .int .u8 0, .int .u8 0, .int .u8 0, .int .u8 0, .int .u8 0, .int .u8 0, .int .u8 0, .int .u8 0, .int .u8 0, .int .u8 0, .int .u8 0, .int .u8 0, .int .u8 0, .int .u8 0, .int .u8 0, .int .u8 0, .int .u8 0, .int .u8 0, .int .u8 0, .int .u8 0, .int .u8 0, .int .u8 0, .int .u8 0, .int .u8 0, .int .u8 0, .int .u8 0, .int .u8 0, .int .u8 0])).run Tryd.prog w = .ok (.bool true) w := eql_dv (List.replicate 32 0) (List.replicate 32 0) (by simp) rfl
  have hdz : dv (tree l) = dv (List.replicate 32 0) := by rw [hlz]
  generalize dv (List.replicate 32 0) = Z at *
  have HLZ := Lib.hid hdz; clear hlz hdz
  go_enter Tryd.func7, Tryd.ntmps7
  go_wp2_with fail
  refine (awake_any w HK.out hk0).mono ?_
  rintro e w1 ⟨rfl, hb1⟩
  have hs1 := hb1.size
  go_wp2_with fail
  refine (HTr.out w1 (Nat.le_refl _) (by omega) ((HL.out.below hb1 (Nat.le_refl _)).below (Below.refl w1.heap.size w1) hs1) (HK.out.below hb1 hk0) (by omega)).mono ?_
  rintro e w2 ⟨rfl, hb2⟩
  rw [HLZ.out]
  go_wp2
  go_ret
  exact ⟨rfl, hb1.trans (hb2.mono hs1)⟩
set_option maxRecDepth 100000 in
set_option maxHeartbeats 4000000 in
theorem splits_one (da : Option Addr) (n cap : Nat) (l : List (List Int)) (w : World) (hl : DigsIn w w.heap.size da n cap l) (hk : KayIn w) (hk0 : 0 < w.heap.size) (h1 : n = 1) :
    Calls Tryd.prog 7 #[.slice da n cap] w fun e w' => e = .returned (.bool true) ∧ Below w.heap.size w w' := by
  have HL := Lib.hid hl; have HK := Lib.hid hk; clear hl hk
  subst h1
  obtain ⟨b, off, rfl, hlt, hc, hr⟩ := HL.out.cells (by omega)
  have hr0 := hr 0 (by omega)
  rw [show off + 0 * 32 = off by omega] at hr0
  have hlo : tree l = l.getD 0 [] := tree_one l HL.out.len
  have hlen := (tree_digs l HL.out.digs).1
  rw [hlo] at hlen
  have heq := eql_dv (l.getD 0 []) (l.getD 0 []) hlen rfl
  have HTr := Lib.hid (Tree_any 1 (some ⟨b, off, none⟩) 1 cap l)
  have hi0 : (Tryd.prog.info? 25).map (·.size) = some ((l.getD 0 []).map (Value.int .u8)).length := by rw [List.length_map, hlen]; exact Tryd.info25d
  have hone0 := one_map .u8 (l.getD 0 [])
  obtain ⟨C, hC⟩ : ∃ C : List Value, C = (l.getD 0 []).map (Value.int .u8) := ⟨_, rfl⟩
  have hdv : dv (l.getD 0 []) = C.toArray := by rw [hC]; rfl
  rw [← hC] at hr0 hi0 hone0
  rw [hdv] at heq
  have hra := hr0
  have hi := hi0
  have hone := hone0
  have hu := Tryd.underlying25
  have HLO := Lib.hid hlo
  have HDV := Lib.hid hdv
  have hcA : Calls Tryd.prog 10 #[] w.drew fun e w' => e = .returned (.bool true) ∧ Below w.heap.size w w' :=
    (awake_any w.drew (HK.out.below (Below.refl w.heap.size w).drew hk0) hk0).mono fun e w' ⟨he, hb⟩ => ⟨he, (Below.refl _ w).drew.trans hb⟩
  have HCA := Lib.hid hcA
  have hcT : ∀ w5, Below w.heap.size w w5 → Calls Tryd.prog 18 #[.slice (some ⟨b, off, none⟩) 1 cap] w5 fun e w' => e = .returned (.agg C.toArray) ∧ Below w.heap.size w w' := by
    intro w5 hb5
    have hs5 := hb5.size
    refine (HTr.out w5 (Nat.le_refl _) (by omega) ((HL.out.below hb5 (Nat.le_refl _)).below (Below.refl w5.heap.size w5) hs5) (HK.out.below hb5 hk0) (by omega)).mono fun e w' ⟨he, hb⟩ => ⟨by rw [he, HLO.out, HDV.out], hb5.trans (hb.mono hs5)⟩
  have HCT := Lib.hid hcT
  clear hr hr0 hlo hlen hi0 hone0 hC hdv hcA hcT
  go_enter Tryd.func7, Tryd.ntmps7
  go_wp2_with fail
  go_region_held3 (fun w' => w'.rangeAt b off C) (first | assumption | exact hra | exact World.rangeAt_drew .. |>.2 hra | exact range_below hra (by assumption) hlt) (first | (go_at_call 10; (with_reducible refine HCA.out.mono ?_); rintro e w5 ⟨rfl, hb5⟩) | (go_at_call 18; (with_reducible refine (HCT.out w5 hb5).mono ?_); rintro e w6 ⟨rfl, hb6⟩))
  go_wp2
  go_ret
  exact ⟨rfl, hb6⟩
set_option maxRecDepth 100000 in
set_option maxHeartbeats 4000000 in
theorem splits_more (da : Option Addr) (n cap : Nat) (l : List (List Int)) (w : World) (hl : DigsIn w w.heap.size da n cap l) (hk : KayIn w) (hk0 : 0 < w.heap.size) (h0 : ¬ n = 0) (h1 : ¬ n = 1) (hbig : ¬ 200 < n) :
    Calls Tryd.prog 7 #[.slice da n cap] w fun e w' => e = .returned (.bool true) ∧ Below w.heap.size w w' := by
  have HL := Lib.hid hl; have HK := Lib.hid hk; clear hl hk
  have e0 : ((n : Int) == 0) = false := by simp; omega
  have e1 : ((n : Int) == 1) = false := by simp; omega
  have hgt : decide ((n : Int) > 200) = false := by simp; omega
  obtain ⟨b, off, rfl, hlt, hcap, _⟩ := HL.out.cells (by omega)
  go_enter Tryd.func7, Tryd.ntmps7
  go_wp2_with fail
  go_loop [3] (fun v => ∃ k : Nat, v = .int .i64 k ∧ OnWay n k) (fun v => n - (intOf v).toNat)
  case atStart => exact ⟨1, rfl, OnWay.start n (by omega)⟩
  case round =>
    obtain ⟨k, rfl, hw⟩ := hrel
    have hk1 := hw.1
    have hk2 := hw.2.1
    have HW := Lib.hid hw; clear hw
    by_cases hlt2 : 2 * k < n
    · have hd : decide (2 * (k : Int) < (n : Int)) = true := by simp; omega
      go_wp2
      go_round
      case rel => exact ⟨2 * k, by first | rfl | (simp; omega), HW.out.step hlt2⟩
      case measure => simp [intOf]; omega
    · have hd : decide (2 * (k : Int) < (n : Int)) = false := by simp; omega
      have HKK := Lib.hid (HW.out.fin hlt2)
      have hT : ∀ (da' : Option Addr) (n' cap' : Nat) (l' : List (List Int)) (w5 : World), n' ≤ 200 → DigsIn w w.heap.size da' n' cap' l' → Below w.heap.size w w5 → Calls Tryd.prog 18 #[.slice da' n' cap'] w5 fun e w' => e = .returned (.agg (dv (tree l'))) ∧ Below w.heap.size w w' := by
        intro da' n' cap' l' w5 hn' hl' hb5
        have hs5 := hb5.size
        exact (Tree_any n' da' n' cap' l' w5 (Nat.le_refl _) (by omega) ((hl'.below hb5 (Nat.le_refl _)).below (Below.refl w5.heap.size w5) hs5) (HK.out.below hb5 hk0) (by omega)).mono fun e w' ⟨he, hb⟩ => ⟨he, hb5.trans (hb.mono hs5)⟩
      have hi1 : (0 : Int) ≤ (k : Int) := by omega
      have hi2 : (k : Int) ≤ (n : Int) := by omega
      have hi3 : (n : Int) ≤ (cap : Int) := by omega
      have hi4 : (k : Int) ≤ (cap : Int) := by omega
      have hi5 : k < cap := by omega
      have HT0 := Lib.hid (fun w5 => hT (some ⟨b, off, none⟩) n cap l w5 (by omega) HL.out)
      have HT1 := Lib.hid (fun w5 => hT (some ⟨b, off, none⟩) k cap (l.take k) w5 (by omega) (HL.out.takes k (by omega)))
      have HT2 := Lib.hid (fun w5 => hT (some ⟨b, off + k * 32, none⟩) (n - k) (cap - k) (l.drop k) w5 (by omega) (HL.out.drops k (by omega)))
      have hcN : ∀ w5, Below w.heap.size w w5 → Calls Tryd.prog 16 #[.agg (dv (tree (l.take k))), .agg (dv (tree (l.drop k)))] w5 fun e w' => e = .returned (.agg (dv (tree l))) ∧ Below w.heap.size w w' := by
        intro w5 hb5
        have hs5 := hb5.size
        have h1 := tree_digs (l.take k) (HL.out.digs.take k)
        have h2 := tree_digs (l.drop k) (HL.out.digs.drop k)
        have hfin : dg (1 :: (tree (l.take k) ++ tree (l.drop k))) = dv (tree l) := by
          rw [tree_more l (by rw [HL.out.len]; omega), HL.out.len, ← HKK.out]; rfl
        exact (Node_any (tree (l.take k)) (tree (l.drop k)) w5 h1.1 h2.1 h1.2 h2.2 (HK.out.below hb5 hk0) (by omega)).mono fun e w' ⟨he, hb⟩ => ⟨by rw [he, hfin], hb5.trans (hb.mono hs5)⟩
      have HCN := Lib.hid hcN
      have hcA : Calls Tryd.prog 10 #[] w.drew fun e w' => e = .returned (.bool true) ∧ Below w.heap.size w w' :=
        (awake_any w.drew (HK.out.below (Below.refl w.heap.size w).drew hk0) hk0).mono fun e w' ⟨he, hb⟩ => ⟨he, (Below.refl _ w).drew.trans hb⟩
      have HCA := Lib.hid hcA
      have heq := eql_dv (tree l) (tree l) (tree_digs l HL.out.digs).1 rfl
      clear hT hcN hcA
      go_wp2_with fail
      go_region_held3 (fun _ => True) (trivial) (first
        | (go_at_call 10; (with_reducible refine HCA.out.mono ?_); rintro e w5 ⟨rfl, hb5⟩)
        | (go_at_call 18; (with_reducible refine (HT0.out w5 hb5).mono ?_); rintro e w6 ⟨rfl, hb6⟩)
        | (go_at_call 18; (with_reducible refine (HT1.out w6 hb6).mono ?_); rintro e w7 ⟨rfl, hb7⟩)
        | (go_at_call 18; (with_reducible refine (HT2.out w7 hb7).mono ?_); rintro e w8 ⟨rfl, hb8⟩)
        | (go_at_call 16; (with_reducible refine (HCN.out w8 hb8).mono ?_); rintro e w9 ⟨rfl, hb9⟩))
      all_goals
        go_wp2
        go_ret
        exact ⟨rfl, hb9⟩

set_option maxRecDepth 100000 in
set_option maxHeartbeats 1000000 in
theorem splits_any (da : Option Addr) (n cap : Nat) (l : List (List Int)) (w : World) (hl : DigsIn w w.heap.size da n cap l) (hk : KayIn w) (hk0 : 0 < w.heap.size) (hmax : n ≤ 9223372036854775807) :
    Calls Tryd.prog 7 #[.slice da n cap] w fun e w' => e = .returned (.bool true) ∧ Below w.heap.size w w' := by
  by_cases hbig : 200 < n
  · clear hl hk
    have hd : decide ((n : Int) > 200) = true := by simp; omega
    go_enter Tryd.func7, Tryd.ntmps7
    go_wp2
    go_ret
    exact ⟨rfl, Below.refl _ _⟩
  · by_cases h0 : n = 0
    · exact splits_zero da n cap l w hl hk hk0 h0
    · by_cases h1 : n = 1
      · exact splits_one da n cap l w hl hk hk0 h1
      · exact splits_more da n cap l w hl hk hk0 h0 h1 hbig
end Go.Proofs.YtgkomippcdgchaaDoor
