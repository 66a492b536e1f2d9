/-
  VersionSorts: the walk of the law.
-/
import Derived.Test.YtceeilojcifgeaaGreatDoorGd
import Derived.Test.YtceeilojcifgeaaGreatDoorTapV
import Derived.Test.YtceeilojcifgeaaGreatDoorLawVVa
namespace Go.Proofs.YtceeilojcifgeaaGreatDoor
open Go.RowKit Go.Sort

theorem own_turn {w w' : World} {tb : Nat} {v : Value} {l : List ByteArray} (h : OwnS w (tb + 1) v l) (ht : Turn tb w w') : OwnS w' (tb + 1) v l := own_keptV h (fun k hk hk2 => ht.block k hk2 (by omega))
/-- what both sorts answer -/
theorem both_sorts {s : Int} {l : List ByteArray} {w w1 w2 : World} {e1 e2 : Ending} (h1 : SrtP s l w e1 w1) (h2 : RsP s l w1 e2 w2) :
    ∃ sp1 sp2 n1 c1 c2 L, e1 = .returned (.tuple #[.slice sp1 n1 c1, .int .i64 (errW s l)]) ∧ e2 = .returned (.tuple #[.slice sp2 n1 c2, .int .i64 (errW s l)]) ∧ StrR w2 sp1 n1 L ∧ StrR w2 sp2 n1 L ∧ (n1 = 0 ∨ n1 = l.length) ∧ Below w.heap.size w w2 := by
  obtain ⟨sp1, n1, c1, he1, ha1, hb1, hc1⟩ := h1
  obtain ⟨sp2, n2, c2, he2, ha2, hb2, hc2⟩ := h2
  by_cases h0 : errW s l = 0
  · obtain ⟨m, hm, hn1, ho1⟩ := ha1 h0
    obtain ⟨hn2, ho2⟩ := ha2 h0
    subst hn1 hn2
    have e := hm.eq
    subst e
    have hl : ((refV (kvs s l)).map (·.1)).length = l.length := by rw [List.length_map, hm.len, kvs_len]
    exact ⟨sp1, sp2, l.length, c1, c2, (refV (kvs s l)).map (·.1), he1, he2, (ho1.r hl).below hc2, ho2.r hl, .inr rfl, hc1.trans (hc2.mono hc1.size)⟩
  · obtain ⟨rfl, rfl, rfl⟩ := hb1 h0
    obtain ⟨rfl, rfl, rfl⟩ := hb2 h0
    exact ⟨none, none, 0, 0, 0, [], he1, he2, ⟨rfl, fun h => absurd h (by omega)⟩, ⟨rfl, fun h => absurd h (by omega)⟩, .inl rfl, hc1.trans (hc2.mono hc1.size)⟩
set_option maxRecDepth 100000 in
set_option maxHeartbeats 4000000 in
theorem versionSorts_any (n : Int) (sp : Option Addr) (m cap : Nat) (l : List ByteArray) (st : Option Addr) (mt ct : Nat) (lt : List Int) (w : World) (hn : -9223372036854775808 ≤ n ∧ n ≤ 9223372036854775807) (hl : StrA w sp m cap l) (ht : IntA w st mt ct lt) :
    Calls Tryz.prog 6 #[.int .i64 n, .slice sp m cap, .slice st mt ct] w fun e w' => e = .returned (.bool true) ∧ Below w.heap.size w w' := by
  have hm := hl.short.1
  have HL := Lib.hid hl.r
  have HT := Lib.hid ht; clear ht hl
  by_cases h30 : m ≤ 30
  · have hd : decide ((m : Int) > 30) = false := by simp; omega
    have HSC := Lib.hid (fun w => scheme_any n w)
    have HR := Lib.hid (schN_rng n)
    generalize schN n = s at *
    go_enter Tryz.func6, Tryz.ntmps6
    go_wp2_with fail
    generalize hw0 : World.alloc w _ = w0
    have h1 : w0.heap[w.heap.size]? = some (.cells #[.slice st mt ct, .int .i64 (0 : Nat)] 39 (0, 0)) := by
      rw [← hw0]; exact heap_alloc_new w _
    have hb0 : Below w.heap.size w w0 := by rw [← hw0]; exact (Below.refl _ _).alloc (Nat.le_refl _) _
    clear hw0
    have HTP0 := Lib.hid (show Tp w0 w.heap.size 9 from ⟨st, mt, ct, lt, 0, ⟨h1, HT.out.len, fun hm => by
      obtain ⟨b, off, e1, e2, e3, e4⟩ := HT.out.cells hm
      exact ⟨b, off, e1, by omega, e3, fun i v hi => (hb0.cell (p := ⟨b, off + i, none⟩) e2).trans (e4 i v hi)⟩, HT.out.wide, HT.out.short⟩, by omega⟩)
    have HB0 := Lib.hid hb0
    clear h1 hb0
    refine (HSC.out _).mono ?_
    rintro e w' ⟨rfl, rfl⟩
    go_wp2_with fail
    refine (next_any w.heap.size 8 8 w0 HTP0.out (by omega) (by omega)).mono ?_
    rintro e w1 ⟨r, rfl, hr8, ht1, hu1⟩
    have HT1 := Lib.hid ht1
    have HB1 := Lib.hid (HB0.out.trans (hu1.below (B := w.heap.size) (Nat.le_refl _) HTP0.out.lt))
    clear ht1 hu1
    go_wp2_with fail
    go_loopw [9, 10] (fun v7 v8 wr => ∃ (k j c : Nat) (sp : Option Addr) (ls : List ByteArray), v7 = .slice sp j c ∧ v8 = .int .i64 k ∧ k + j = r ∧ Hid (ls.length = j ∧ OwnS wr (w.heap.size + 1) (.slice sp j c) ls ∧ Tp wr w.heap.size k ∧ Below w.heap.size w wr)) (fun _ v8 _ => (intOf v8).toNat)
    case atStart => exact ⟨r, 0, 0, none, [], rfl, rfl, by omega, rfl, OwnS.nil _ _, HT1.out.le (by omega), HB1.out⟩
    case round =>
      clear HT1 HB1 HTP0 HB0
      obtain ⟨k, j, c, gv, ls, rfl, rfl, hkj, H⟩ := hrel
      have HLN := Lib.hid H.out.1; have HO := Lib.hid H.out.2.1; have HTP := Lib.hid H.out.2.2.1; have HB := Lib.hid H.out.2.2.2
      clear H
      rcases k with _ | k
      · rw [show ((0 : Nat) : Int) = 0 from rfl]
        have hd : decide (((0 : Nat) : Int) > 0) = false := by simp
        have hd' : decide ((0 : Int) > 0) = false := by simp
        have HSTR := Lib.hid (HO.out.r HLN.out)
        have HLW := Lib.hid (HL.out.below HB.out)
        go_wp2_with fail
        generalize hwx : World.alloc wr _ = wx
        have hbx : Below wr.heap.size wr wx := by rw [← hwx]; exact (Below.refl _ _).alloc (Nat.le_refl _) _
        have hsx : wr.heap.size < wx.heap.size := by rw [← hwx]; simp
        have hr2 := heap_alloc_new wr (.cells #[.slice sp m cap, .slice gv j c] 29)
        rw [hwx] at hr2
        have HCX := Lib.hid (show ∀ q, q < 2 → ∃ spx nx cx lx, wx.cell? ⟨wr.heap.size, q, none⟩ = some (.slice spx nx cx) ∧ StrR wx spx nx lx ∧ nx ≤ 30 from fun q hq => by
          rcases (by omega : q = 0 ∨ q = 1) with rfl | rfl
          · exact ⟨sp, m, cap, l, by rw [cell_of_row _ _ 0 _ _ _ hr2]; rfl, HLW.out.below hbx, h30⟩
          · exact ⟨gv, j, c, ls, by rw [cell_of_row _ _ 1 _ _ _ hr2]; rfl, HSTR.out.below hbx, by omega⟩)
        have HBX := Lib.hid (HB.out.trans (hbx.mono HB.out.size))
        have HSX := Lib.hid hsx
        clear hwx hbx hsx hr2
        generalize wr.heap.size = bx at *
        go_loopw [47] (fun i wl => ∃ q : Nat, q ≤ 2 ∧ i = .int .i64 q ∧ Hid (Below wx.heap.size wx wl)) (fun i _ => 2 - (intOf i).toNat)
        case atStart => exact ⟨0, by omega, rfl, Below.refl _ _⟩
        case round =>
          obtain ⟨q, hq, rfl, H⟩ := hrel
          have HBL := Lib.hid H.out
          clear H
          by_cases hq2 : q < 2
          · have hd : decide ((q : Int) < 2) = true := by simp; omega
            have p1 : (0 : Int) ≤ (q : Int) := by omega
            have p2 : (q : Int) < 2 := by omega
            obtain ⟨spx, nx, cx, lx, hcx, hsx, hnx⟩ := HCX.out q hq2
            have x1 : wr.cell? ⟨_, q, none⟩ = some (.slice spx nx cx) := (HBL.out.cell (p := ⟨_, q, none⟩) HSX.out).trans hcx
            have HSTX := Lib.hid (hsx.below HBL.out)
            clear hcx hsx
            go_wp2_with fail
            generalize hwy : World.alloc wr _ = wy
            have hby : Below wr.heap.size wr wy := by rw [← hwy]; exact (Below.refl _ _).alloc (Nat.le_refl _) _
            have hsy : wr.heap.size < wy.heap.size := by rw [← hwy]; simp
            have hr3 := heap_alloc_new wr (.cells #[.int .i64 n, .int .i64 s] 3)
            rw [hwy] at hr3
            have HCY := Lib.hid (show ∀ p, p < 2 → ∃ sv, wy.cell? ⟨wr.heap.size, p, none⟩ = some (.int .i64 sv) from fun p hp => by
              rcases (by omega : p = 0 ∨ p = 1) with rfl | rfl
              · exact ⟨n, by rw [cell_of_row _ _ 0 _ _ _ hr3]; rfl⟩
              · exact ⟨s, by rw [cell_of_row _ _ 1 _ _ _ hr3]; rfl⟩)
            have HSTY := Lib.hid (HSTX.out.below hby)
            have HBY := Lib.hid (HBL.out.trans (hby.mono HBL.out.size))
            have HSY := Lib.hid hsy
            clear hwy hby hsy hr3 x1
            generalize wr.heap.size = by0 at *
            go_loopw [55] (fun i wl => ∃ p : Nat, p ≤ 2 ∧ i = .int .i64 p ∧ Hid (Below wy.heap.size wy wl)) (fun i _ => 2 - (intOf i).toNat)
            case atStart => exact ⟨0, by omega, rfl, Below.refl _ _⟩
            case round =>
              obtain ⟨p, hp, rfl, H⟩ := hrel
              have HBZ := Lib.hid H.out
              clear H
              by_cases hp2 : p < 2
              · have hd : decide ((p : Int) < 2) = true := by simp; omega
                have q1 : (0 : Int) ≤ (p : Int) := by omega
                have q2 : (p : Int) < 2 := by omega
                obtain ⟨sv, hcy⟩ := HCY.out p hp2
                have y1 : wr.cell? ⟨_, p, none⟩ = some (.int .i64 sv) := (HBZ.out.cell (p := ⟨_, p, none⟩) HSY.out).trans hcy
                have HST := Lib.hid (HSTY.out.below HBZ.out)
                clear hcy
                go_wp2_with fail
                refine (sort_any sv spx nx cx lx wr HST.out (by omega)).mono ?_
                intro e w1 hs1
                have HS1 := Lib.hid hs1
                obtain ⟨sp1, n1, c1, rfl, _, _, b1⟩ := hs1
                have HST1 := Lib.hid (HST.out.below b1)
                clear b1
                go_wp2_with fail
                refine (rsort_any sv spx nx cx lx w1 HST1.out (by omega)).mono ?_
                intro e w2 hs2
                have HS2 := Lib.hid hs2
                obtain ⟨sp2, n2, c2, rfl, _, _, b2⟩ := hs2
                have HST2 := Lib.hid (HST1.out.below b2)
                clear b2
                obtain ⟨sp1', sp2', n1', c1', c2', L, E1, E2, hL1, hL2, hn1, hbb⟩ := both_sorts HS1.out HS2.out
                injection E1 with E1; injection E1 with E1; injection E1 with E1; injection E1 with E1 _; injection E1 with e1 e2 e3
                injection E2 with E2; injection E2 with E2; injection E2 with E2; injection E2 with E2 _; injection E2 with e4 e5 e6
                subst e1 e2 e3 e4 e5 e6
                have HL1 := Lib.hid hL1; have HL2 := Lib.hid hL2
                have HN1 := Lib.hid (show n2 ≤ 1000 by
                  have h9 := HST.out.len
                  rcases hn1 with h | h <;> omega)
                have HB2 := Lib.hid (HBZ.out.trans (hbb.mono HBZ.out.size))
                clear hL1 hL2 hn1 hbb HS1 HS2 y1
                generalize errW sv lx = er at *
                go_wp2_with fail
                refine (latest_any sv spx nx cx lx w2 HST2.out (by omega)).mono ?_
                rintro e w3 ⟨rfl, b3⟩
                have HST3 := Lib.hid (HST2.out.below b3)
                have HL13 := Lib.hid (HL1.out.below b3); have HL23 := Lib.hid (HL2.out.below b3)
                have HB3 := Lib.hid (HB2.out.trans (b3.mono HB2.out.size))
                clear b3
                go_wp2_with fail
                refine (rlatest_any sv spx nx cx lx w3 HST3.out (by omega)).mono ?_
                rintro e w4 ⟨rfl, b4⟩
                have HL14 := Lib.hid (HL13.out.below b4); have HL24 := Lib.hid (HL23.out.below b4)
                have HB4 := Lib.hid (HB3.out.trans (b4.mono HB3.out.size))
                clear b4
                generalize latR sv lx = la at *
                obtain ⟨lv, le⟩ := la
                have hE1 : (!(er == er)) = false := by simp
                have hE2 : (!(le == le)) = false := by simp
                have hE3 : (!(lv.toList == lv.toList)) = false := by simp
                go_wp2_with fail
                refine (sameV_any sp1 sp2 n2 c1 c2 L w4 HL14.out HL24.out HN1.out).mono ?_
                rintro e w5 ⟨rfl, b5⟩
                have HB5 := Lib.hid (HB4.out.trans (b5.mono HB4.out.size))
                clear b5
                go_wp2_with fail
                go_roundw
                case rel => exact ⟨p + 1, by omega, by go_num, HB5.out⟩
                case measure => simp [intOf]; omega
              · obtain rfl : p = 2 := by omega
                have hd : decide (((2 : Nat) : Int) < 2) = false := by simp
                have HBO := Lib.hid (HBY.out.trans (HBZ.out.mono HBY.out.size))
                go_wp2_with fail
                go_roundw
                case rel => exact ⟨q + 1, by omega, by go_num, HBO.out⟩
                case measure => simp [intOf]; omega
          · obtain rfl : q = 2 := by omega
            have hd : decide (((2 : Nat) : Int) < 2) = false := by simp
            go_wp2_with fail
            refine (awake6_any _).mono ?_
            rintro e w9 ⟨rfl, b9⟩
            have B9 := Lib.hid b9; clear b9
            go_wp2_with fail
            go_ret
            exact ⟨rfl, nextB (HBX.out.trans (HBL.out.mono HBX.out.size)) B9.out⟩
      · have hd : decide (((k + 1 : Nat) : Int) > 0) = true := by simp
        go_wp2_with fail
        refine (tversion_any w.heap.size k s wr HR.out HTP.out).mono ?_
        rintro e w1 ⟨v, rfl, hv, ht1, hu1⟩
        have HTP1 := Lib.hid ht1
        have HB1 := Lib.hid (HB.out.trans (hu1.below (B := w.heap.size) (Nat.le_refl _) HTP.out.lt))
        have HO1 := Lib.hid (own_turn HO.out hu1)
        have HSZ := Lib.hid (show w.heap.size + 1 ≤ w1.heap.size from ht1.lt)
        clear hv ht1 hu1
        have HY := Lib.hid (show (w1.alloc (.cells #[.string v] 9)).heap[w1.heap.size]? = some (.cells #[.string v] 9 (0, 0)) from heap_alloc_new w1 _)
        go_wp2_with (at_builtin; refine wpList_append_sv rfl (.tmp 37) (.tmp 41) rfl (w.heap.size + 1) _ ls j HLN.out.symm rfl (HO1.out.below ((Below.refl _ _).alloc (Nat.le_refl _) _)) w1.heap.size v rfl HY.out (by omega) (Nat.le_trans HSZ.out (by simp)) ?_; intro g' c' w4 HO4 HB4 HG4)
        have HB5 := Lib.hid ((HB1.out.alloc HB1.out.size _).trans (HB4.out.mono (by omega)))
        have HTP5 := Lib.hid (show Tp w4 w.heap.size k from (HTP1.out.of ((Below.refl _ _).alloc (Nat.le_refl _) _)).ofB HB4.out (by omega))
        go_roundw
        case rel => exact ⟨k, j + 1, c', g', ls ++ [v], rfl, by go_num, by omega, by rw [List.length_append, HLN.out]; rfl, HO4.out, HTP5.out, HB5.out⟩
        case measure => simp [intOf]
  · have hd : decide ((m : Int) > 30) = true := by simp; omega
    go_enter Tryz.func6, Tryz.ntmps6
    go_wp2_with fail
    go_ret
    exact ⟨rfl, Below.refl _ _⟩
end Go.Proofs.YtceeilojcifgeaaGreatDoor
