/-
  The tape of the statements: the walk of Edit: what it makes is a snapshot.
-/
import Derived.Test.YtkookkhlgllneaaDoorTapE
namespace Go.Proofs.YtkookkhlgllneaaDoor
open Go.RowKit

theorem apart_new {tb g : Nat} (h : tb < g) : ApartT tb (some ⟨g, 0, none⟩) := by
  rintro b o h
  injection h with h; injection h with h
  omega
set_option maxRecDepth 100000 in
set_option maxHeartbeats 2000000 in
theorem edit_any (tb q : Nat) (sp0 : Option Addr) (n0 cap0 : Nat) (l0 : List En) (w : World) (ht : Tp w tb (q + 19)) (he : EnsIn w w.heap.size sp0 n0 cap0 l0) (ha : ApartT tb sp0) (hsn : Snap l0) (hn0 : n0 ≤ 1000) :
    Calls Tryd.prog 21 #[.pointer (some ⟨tb, 0, none⟩), .slice sp0 n0 cap0] w fun e w' => ∃ sp n cap l, e = .returned (.slice sp n cap) ∧ EnsIn w' w'.heap.size sp n cap l ∧ ApartT tb sp ∧ Snap l ∧ n ≤ n0 + 3 ∧ Tp w' tb q ∧ Turn tb w w' := by
  have HT := Lib.hid ht; have HE0 := Lib.hid he; have HA0 := Lib.hid ha; have HS0 := Lib.hid hsn; clear ht he ha hsn
  go_enter Tryd.func21, Tryd.ntmps21
  go_wp2_with fail
  refine (next_any tb 4 (q + 18) w HT.out (by omega) (by omega)).mono ?_
  rintro e w1 ⟨r, rfl, hr, ht1, hu1⟩
  have HT1 := Lib.hid ht1; have HU1 := Lib.hid hu1; have HE1 := Lib.hid (HE0.out.turn HA0.out hu1); clear ht1 hu1
  go_wp2_with fail
  go_loopw [1, 5] (fun v i wr => ∃ (c N cap : Nat) (sp : Option Addr) (l : List En), N + c ≤ n0 + 3 ∧ c ≤ 3 ∧ i = .int .i64 c ∧ v = .slice sp N cap ∧ Hid (EnsIn wr wr.heap.size sp N cap l) ∧ Hid (ApartT tb sp) ∧ Hid (Snap l) ∧ Hid (Tp wr tb (q + 6 * c)) ∧ Hid (Turn tb w wr)) (fun _ i _ => (intOf i).toNat)
  case atStart => exact ⟨r, n0, cap0, sp0, l0, by omega, by omega, rfl, rfl, HE1.out, HA0.out, HS0.out, HT1.out.le (by omega), HU1.out⟩
  case round =>
  clear HT1 HU1 HE1 HE0 HA0 HS0
  obtain ⟨c, N, cap, sp, l, hc, hc3, rfl, rfl, HE, HA, HSN, HTT, HU⟩ := hrel
  by_cases hn : 0 < c
  · have hd : decide ((c : Int) > 0) = true := by simp; omega
    have q1 : IntKind.i64.wrap ((c : Int) - 1) = (c : Int) - 1 := IntWalk.i64_in _ (by omega)
    have hnx := next_any tb 3 (q + 6 * (c - 1) + 5) wr (HTT.out.le (by omega)) (by omega) (by omega)
    have HNX := Lib.hid hnx; clear hnx
    go_wp2_with fail
    refine HNX.out.mono ?_
    rintro e w2 ⟨t, rfl, htt, ht2, hu2⟩
    have HT2 := Lib.hid ht2; have HE2 := Lib.hid (HE.out.turn HA.out hu2); have HU2 := Lib.hid (HU.out.trans hu2)
    clear ht2 hu2 HNX
    by_cases hgo : t = 0 ∧ 0 < N
    · obtain ⟨rfl, hN⟩ := hgo
      have hd2 : decide ((N : Int) > 0) = true := by simp; omega
      have htl := HT2.out.lt
      go_wp2_with fail
      refine (next_any tb N (q + 6 * (c - 1)) w2 (HT2.out.le (by omega)) (by omega) (by omega)).mono ?_
      rintro e w3 ⟨i, rfl, hi, ht3, hu3⟩
      have HT3 := Lib.hid ht3; have HE3 := Lib.hid (HE2.out.turn HA.out hu3); have HU3 := Lib.hid (HU2.out.trans hu3)
      clear ht3 hu3
      go_wp2_with fail
      refine (drop_any sp N cap l i w3 HE3.out hi (by omega)).mono ?_
      rintro e w4 ⟨sp4, cap4, rfl, ho4, hb4⟩
      have HT4 := Lib.hid (HT3.out.of hb4)
      have HU4 := Lib.hid (HU3.out.trans (Turn.of hb4))
      have htl3 := HT3.out.lt
      have HA4 := Lib.hid (ho4.apart htl3)
      have HE4 := Lib.hid (ho4.ens (by
        have := HE3.out.len
        rw [List.length_append, List.length_take, List.length_drop]; omega))
      have HSN4 := Lib.hid (HSN.out.drop i)
      clear ho4 hb4
      go_wp2_with fail
      go_roundw
      case rel => exact ⟨c - 1, N - 1, cap4, _, _, by omega, by omega, by go_num, rfl, HE4, HA4, HSN4, HT4, HU4⟩
      case measure => simp [intOf]; omega
    · have hcond : (t ≠ 0) ∨ (t = 0 ∧ N = 0) := by omega
      have HP : Hid (∀ w3, Tp w3 tb (q + 6 * (c - 1) + 5) → Calls Tryd.prog 59 #[.pointer (some ⟨tb, 0, none⟩)] w3 fun e w' => ∃ s : ByteArray, e = .returned (.string s) ∧ pathB s = true ∧ Tp w' tb (q + 6 * (c - 1) + 1) ∧ Turn tb w3 w') := fun w3 h => path_any tb (q + 6 * (c - 1) + 1) w3 h
      rcases hcond with h0 | ⟨rfl, rfl⟩
      · have hd2 : ((t : Int) == 0) = false := by simp; omega
        clear hgo
        go_wp2_with fail
        refine (HP.out w2 HT2.out).mono ?_
        rintro e w3 ⟨p, rfl, hp, ht3, hu3⟩
        have HPB := Lib.hid hp
        have HT3 := Lib.hid ht3; have HE3 := Lib.hid (HE2.out.turn HA.out hu3); have HU3 := Lib.hid (HU2.out.trans hu3)
        clear ht3 hu3 hp
        go_wp2_with fail
        refine (tsum_any tb (q + 6 * (c - 1)) w3 HT3.out).mono ?_
        rintro e w4 ⟨d, rfl, hd32, hdz, ht4, hu4⟩
        have HDO := Lib.hid hd32; have HDZ := Lib.hid hdz
        have HT4 := Lib.hid ht4; have HE4 := Lib.hid (HE3.out.turn HA.out hu4); have HU4 := Lib.hid (HU3.out.trans hu4)
        clear ht4 hu4 hd32 hdz
        go_wp2_with (refine wpList_build_eq rfl 70 [(0, .tmp 28), (1, .tmp 30)] rfl [(0, .string p), (1, .agg (d.map (Value.int .u8)).toArray)] rfl _ (buildE p d HDO.out.1 _) ?_)
        refine (Put_any sp N cap l ⟨p, d⟩ w4 HE4.out HSN.out.srt HDO.out (by omega)).mono ?_
        rintro e w5 ⟨g, n', cap', rfl, hg, he5, hb5⟩
        have HE5 := Lib.hid he5
        have HT5 := Lib.hid (HT4.out.of hb5)
        have HU5 := Lib.hid (HU4.out.trans (Turn.of hb5))
        have HSN5 := Lib.hid (HSN.out.put (x := ⟨p, d⟩) HPB.out HDZ.out)
        have htl := HT4.out.lt
        have hlen : n' ≤ N + 1 := by
          have h1 := HE5.out.len
          have h2 := putT_length l ⟨p, d⟩
          have h3 := HE4.out.len
          omega
        have HA5 := Lib.hid (apart_new (show tb < g by omega))
        clear he5 hb5
        go_wp2_with fail
        go_roundw
        case rel => exact ⟨c - 1, n', cap', _, _, by omega, by omega, by go_num, rfl, HE5, HA5, HSN5, HT5, HU5⟩
        case measure => simp [intOf]; omega
      · clear hgo
        go_wp2_with fail
        refine (HP.out w2 HT2.out).mono ?_
        rintro e w3 ⟨p, rfl, hp, ht3, hu3⟩
        have HPB := Lib.hid hp
        have HT3 := Lib.hid ht3; have HE3 := Lib.hid (HE2.out.turn HA.out hu3); have HU3 := Lib.hid (HU2.out.trans hu3)
        clear ht3 hu3 hp
        go_wp2_with fail
        refine (tsum_any tb (q + 6 * (c - 1)) w3 HT3.out).mono ?_
        rintro e w4 ⟨d, rfl, hd32, hdz, ht4, hu4⟩
        have HDO := Lib.hid hd32; have HDZ := Lib.hid hdz
        have HT4 := Lib.hid ht4; have HE4 := Lib.hid (HE3.out.turn HA.out hu4); have HU4 := Lib.hid (HU3.out.trans hu4)
        clear ht4 hu4 hd32 hdz
        go_wp2_with (refine wpList_build_eq rfl 70 [(0, .tmp 28), (1, .tmp 30)] rfl [(0, .string p), (1, .agg (d.map (Value.int .u8)).toArray)] rfl _ (buildE p d HDO.out.1 _) ?_)
        refine (Put_any sp 0 cap l ⟨p, d⟩ w4 HE4.out HSN.out.srt HDO.out (by omega)).mono ?_
        rintro e w5 ⟨g, n', cap', rfl, hg, he5, hb5⟩
        have HE5 := Lib.hid he5
        have HT5 := Lib.hid (HT4.out.of hb5)
        have HU5 := Lib.hid (HU4.out.trans (Turn.of hb5))
        have HSN5 := Lib.hid (HSN.out.put (x := ⟨p, d⟩) HPB.out HDZ.out)
        have htl := HT4.out.lt
        have hlen : n' ≤ 1 := by
          have h1 := HE5.out.len
          have h2 := putT_length l ⟨p, d⟩
          have h3 := HE4.out.len
          omega
        have HA5 := Lib.hid (apart_new (show tb < g by omega))
        clear he5 hb5
        go_wp2_with fail
        go_roundw
        case rel => exact ⟨c - 1, n', cap', _, _, by omega, by omega, by go_num, rfl, HE5, HA5, HSN5, HT5, HU5⟩
        case measure => simp [intOf]; omega
  · obtain rfl : c = 0 := by omega
    go_wp2_with fail
    go_ret
    exact ⟨_, _, _, l, rfl, HE.out, HA.out, HSN.out, by omega, HTT.out.le (by omega), HU.out⟩
end Go.Proofs.YtkookkhlgllneaaDoor
