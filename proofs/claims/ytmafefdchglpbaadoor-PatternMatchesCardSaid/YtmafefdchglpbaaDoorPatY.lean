/-
  The walk of the reference's Match: for all strings.
-/
import Derived.Test.YtmafefdchglpbaaDoorPatX
import Derived.WalkSmall
import Derived.BigQuiet
namespace Go.Proofs.YtmafefdchglpbaaDoor
open Go.RowKit

theorem arr_rf (ps : List Pt) (old : List Bool) (c : Int) : ∀ i, arr (ps.map rf1) old c i = arr ps old c i
  | 0 => rfl
  | i + 1 => by rw [arr_eq, arr_eq, rf_getD, rf1_seq, arr_rf ps old c i]; unfold tT; rw [rf_getD, rf1_tk]
theorem nvc_rf (ps : List Pt) (old : List Bool) (c : Int) (i : Nat) : nvc (ps.map rf1) old c i = nvc ps old c i := by
  unfold nvc; rw [arr_rf, arr_rf, rf_getD, rf1_seq, List.length_map]
theorem advL_rf (ps : List Pt) (old : List Bool) (c : Int) : advL (ps.map rf1) old c = advL ps old c := by
  unfold advL; rw [List.length_map]; exact List.map_congr_left fun i _ => nvc_rf ps old c i
theorem ini_rf (ps : List Pt) (i : Nat) : ini (ps.map rf1) i = ini ps i := by
  unfold ini
  congr 1
  funext j
  rw [rf_getD, rf1_seq]
theorem iniL_rf (ps : List Pt) : iniL (ps.map rf1) = iniL ps := by
  unfold iniL; rw [List.length_map]; exact List.map_congr_left fun i _ => ini_rf ps i
theorem runL_rf (ps : List Pt) (l : List UInt8) : runL (ps.map rf1) l = runL ps l := by
  unfold runL; rw [iniL_rf]
  congr 1
  funext v c
  exact advL_rf ps v (c.toNat : Int)
theorem concB_rf (ps : List Pt) (l : List UInt8) : concB (ps.map rf1) l = concB ps l := by
  unfold concB; rw [runL_rf, List.length_map]
/-- parts that the call has read, in memory -/
theorem pIn_of_ownR {w : World} {base : Nat} {sp : Option Addr} {n cap : Nat} {ps : List Pt} (h : w.ownsRow base 82 2 (.slice sp n cap) n (ptC ps)) (hn : n = ps.length) (h0 : 0 < n) : ∃ g, sp = some ⟨g, 0, none⟩ ∧ base ≤ g ∧ g < w.heap.size ∧ n ≤ cap ∧ PIn w g ps := by
  obtain ⟨_, ⟨e, h1⟩ | ⟨g, cap', cur, e, hb, hh, hc, _, hsz, hx⟩⟩ := h
  · omega
  · injection e with e1 e2 e3
    subst e1 e3
    refine ⟨g, rfl, hb, (Array.getElem?_eq_some_iff.1 hh).1, hc, fun i hi => ?_, fun i hi => ?_⟩
    · have h1 := (ptC_at ps i hi).1
      rw [← hx, List.getElem?_take] at h1
      rw [cell_of_row w g _ _ _ _ hh, ← Array.getElem?_toList, Nat.mul_comm i 2]
      split at h1
      · exact h1
      · cases h1
    · have h1 := (ptC_at ps i hi).2
      rw [← hx, List.getElem?_take] at h1
      rw [cell_of_row w g _ _ _ _ hh, ← Array.getElem?_toList, Nat.mul_comm i 2]
      split at h1
      · exact h1
      · cases h1
theorem PIn.below {w w' : World} {bb B : Nat} {ps : List Pt} (h : PIn w bb ps) (hb : Below B w w') (hg : bb < B) : PIn w' bb ps :=
  ⟨fun i hi => (hb.cell (p := ⟨bb, i * 2, none⟩) hg).trans (h.k i hi), fun i hi => (hb.cell (p := ⟨bb, i * 2 + 1, none⟩) hg).trans (h.c i hi)⟩
theorem wayI_next {ps : List Pt} {k : Nat} (hk : k < ps.length) (h0 : ini ps k = true) (hs : seqP (ps.getD k (0, 0)) = true) : (wayI ps (k + 1)).set (k + 1) true = wayI ps (k + 1 + 1) ∧ ini ps (k + 1) = true := by
  have h1 : ini ps (k + 1) = true := by rw [ini_succ, h0, hs]; rfl
  refine ⟨?_, h1⟩
  rw [← wayI_set ps (k + 1) (by omega), h1]
set_option maxRecDepth 100000 in
set_option maxHeartbeats 4000000 in
theorem refMatch_any (p s : ByteArray) (w : World) :
    Calls Tryd.prog 34 #[.string p, .string s] w fun e w' => e = .returned (.bool (mtB p s)) ∧ Below w.heap.size w w' := by
  have HR := Lib.hid (refRead_any p w)
  have HPA := Lib.hid (fun w => refPath_any s w)
  cases hp : patL p.data.toList with
  | none =>
    have HM := Lib.hid (mtB_none (s := s) hp)
    have hR2 : Calls Tryd.prog 54 #[.string p] w fun e w' => e = .returned (.tuple #[.slice none 0 0, .bool false]) ∧ Below w.heap.size w w' := HR.out.mono fun e w' h => by unfold RReadRes at h; rw [hp] at h; exact h
    have HR2 := Lib.hid hR2
    clear hR2 hp HR
    go_enter Tryd.func34, Tryd.ntmps34
    go_wp2_with fail
    refine HR2.out.mono ?_
    rintro e w1 ⟨rfl, hb1⟩
    go_wp2_with fail
    go_ret
    exact ⟨by rw [HM.out]; rfl, hb1⟩
  | some ps0 =>
    have hm := mtB_some (s := s) hp
    obtain ⟨k30, k200, _⟩ := patL_kinds hp
    have h0 := patL_ne hp
    have hR2 : Calls Tryd.prog 54 #[.string p] w fun e w' => ∃ g cap, e = .returned (.tuple #[.slice (some ⟨g, 0, none⟩) (ps0.map rf1).length cap, .bool true]) ∧ g < w'.heap.size ∧ (ps0.map rf1).length ≤ cap ∧ PIn w' g (ps0.map rf1) ∧ Below w.heap.size w w' := HR.out.mono fun e w' h => by
      unfold RReadRes at h; rw [hp] at h
      obtain ⟨sp, cap, he, ho, hb⟩ := h
      obtain ⟨g, rfl, _, h2, h3, h4⟩ := pIn_of_ownR ho (by rw [List.length_map]) h0
      exact ⟨g, cap, by rw [he, List.length_map], h2, by rw [List.length_map]; exact h3, h4, hb⟩
    rw [← concB_rf] at hm
    have k3 : ∀ q ∈ ps0.map rf1, q.1 ≤ 3 := fun q hq => by
      obtain ⟨x, hx, rfl⟩ := List.mem_map.1 hq
      rw [rf1_kind]; exact k30 x hx
    have h200 : (ps0.map rf1).length ≤ 200 := by rw [List.length_map]; exact k200
    clear HR hp k30 k200 h0
    obtain ⟨ps, hps0⟩ : ∃ ps, ps0.map rf1 = ps := ⟨_, rfl⟩
    rw [hps0] at hm hR2 k3 h200
    clear hps0
    have HR2 := Lib.hid hR2; have HK := Lib.hid k3; have HM := Lib.hid hm
    obtain ⟨n, hn⟩ : ∃ n, ps.length = n := ⟨_, rfl⟩
    rw [hn] at HR2 h200
    have HN := Lib.hid hn
    have hps := pathB_size (s := s)
    obtain ⟨pb, hpb⟩ : ∃ b, pathB s = b := ⟨_, rfl⟩
    rw [hpb] at HPA HM hps
    have hmk := makeB n (by omega)
    have HZ : Hid (∀ w0 w1 : World, w0.alloc (.cells ((zBo (n + 1)).setIfInBounds 0 (.bool true)) 4) = w1 → BRow w1 w0.heap.size (wayI ps 1) ∧ Below w0.heap.size w0 w1 ∧ w1.heap.size = w0.heap.size + 1) := by
      rintro w0 w1 rfl
      refine ⟨?_, (Below.refl _ _).alloc (Nat.le_refl _) _, by simp⟩
      have e : (zBo (n + 1)).setIfInBounds 0 (.bool true) = ((wayI ps 1).map Value.bool).toArray := by
        unfold wayI zBo; rw [hn]; simp [List.replicate_succ]; rfl
      rw [e]
      exact heap_alloc_new w0 _
    have HZ2 : Hid (∀ w0 w1 : World, w0.alloc (.cells (zBo (n + 1)) 4) = w1 → BRow w1 w0.heap.size (List.replicate (n + 1) false) ∧ Below w0.heap.size w0 w1 ∧ w1.heap.size = w0.heap.size + 1) := by
      rintro w0 w1 rfl
      exact ⟨zBo_row _ _, (Below.refl _ _).alloc (Nat.le_refl _) _, by simp⟩
    have hz0 : (zBo (n + 1))[0]? = some (.bool false) := by simp [zBo]
    clear hR2 k3 hm hn hpb
    have HPS := Lib.hid hps
    clear hps
    go_enter Tryd.func34, Tryd.ntmps34
    go_wp2_with fail
    refine HR2.out.mono ?_
    rintro e w1 ⟨bb, cap, rfl, hg, hcap, hpi, hb1⟩
    have HPI := Lib.hid hpi; have HB1 := Lib.hid hb1
    clear hpi hb1
    go_wp2_with fail
    refine (HPA.out _).mono ?_
    rintro e w2 ⟨rfl, hb2⟩
    have HP2 := Lib.hid (HPI.out.below hb2 hg)
    have HB2 := Lib.hid (HB1.out.trans (hb2.mono HB1.out.size))
    have hbb : bb < w2.heap.size := Nat.lt_of_lt_of_le hg hb2.size
    clear hb2 HPI hg
    cases pb
    · clear hz0 hmk
      go_wp2_with fail
      go_ret
      exact ⟨by rw [HM.out]; rfl, HB2.out⟩
    · have hs200 : s.size ≤ 200 := HPS.out (by first | rfl | trivial)
      go_wp2_with fail
      generalize hw3 : World.alloc w2 _ = w3
      obtain ⟨hr3, hb3, hz3⟩ := HZ.out _ _ hw3
      have HR3 := Lib.hid hr3; have HB3 := Lib.hid hb3
      clear hw3 hr3 HZ hz0 hb3
      have hlt3 : w2.heap.size < w3.heap.size := by omega
      clear hz3
      go_loopw [8] (fun i wr => ∃ k : Nat, k ≤ n ∧ i = .int .i64 k ∧ Hid (BRow wr w2.heap.size (wayI ps (k + 1))) ∧ Hid (Below w2.heap.size w2 wr) ∧ Hid (ini ps k = true)) (fun i _ => n - (intOf i).toNat)
      case atStart => exact ⟨0, Nat.zero_le _, rfl, HR3.out, HB3.out, ini_zero ps⟩
      case round =>
        clear HR3 HB3
        obtain ⟨k, hk, rfl, hrow, hbe, hin⟩ := hrel
        have hgz := hbe.out.size
        have hgz2 := hrow.out.lt
        have hcs : (k < n ∧ seqP (ps.getD k (0, 0)) = true) ∨ ((k < n ∧ seqP (ps.getD k (0, 0)) = false) ∨ k = n) := by
          rcases Nat.lt_or_ge k n with h | h
          · cases h2 : seqP (ps.getD k (0, 0))
            · exact .inr (.inl ⟨h, rfl⟩)
            · exact .inl ⟨h, rfl⟩
          · exact .inr (.inr (by omega))
        rcases hcs with ⟨hlt, hsq⟩ | hx
        · have hd : decide ((k : Int) < (n : Int)) = true := by simp; omega
          have p1 : (0 : Int) ≤ (k : Int) := by omega
          have p2 : (k : Int) < (n : Int) := by omega
          have p3 : (k : Int) < (n : Int) + 1 := by omega
          have p4 : (0 : Int) ≤ (k : Int) + 1 := by omega
          have p5 : (k : Int) + 1 < (n : Int) + 1 := by omega
          have p6 : ((k : Int) + 1).toNat = k + 1 := by omega
          have c1 := (hbe.out.cell (p := ⟨bb, k * 2, none⟩) hbb).trans (HP2.out.k k (by rw [HN.out]; exact hlt))
          have c2 := (hbe.out.cell (p := ⟨bb, k * 2 + 1, none⟩) hbb).trans (HP2.out.c k (by rw [HN.out]; exact hlt))
          have hwl : (wayI ps (k + 1)).length = n + 1 := by rw [wayI_length _ _ (by rw [HN.out]; omega), HN.out]
          have c4 := hrow.out.get (k + 1) (by rw [hwl]; omega)
          obtain ⟨y, hy⟩ : ∃ y, (wayI ps (k + 1)).getD (k + 1) false = y := ⟨_, rfl⟩
          rw [hy] at c4
          obtain ⟨hst, hi2⟩ := wayI_next (by rw [HN.out]; exact hlt) hin.out hsq
          have hmem : ps.getD k (0, 0) ∈ ps := by rw [List.getD_eq_getElem?_getD, List.getElem?_eq_getElem (by rw [HN.out]; exact hlt)]; exact List.getElem_mem _
          have hq3 := HK.out _ hmem
          obtain ⟨q, hq⟩ : ∃ q, ps.getD k (0, 0) = q := ⟨_, rfl⟩
          rw [hq] at c1 c2 hq3 hsq
          have HC2 := Lib.hid (fun w => refLong_any q w hq3)
          rw [hsq] at HC2
          have HEND : Hid (∀ w6, Below wr.heap.size wr w6 → BRow (w6.setCell ⟨w2.heap.size, k + 1, none⟩ (.bool true)) w2.heap.size (wayI ps (k + 1 + 1)) ∧ Below w2.heap.size w2 (w6.setCell ⟨w2.heap.size, k + 1, none⟩ (.bool true))) := by
            intro w6 hb
            have h1 := (hrow.out.below hb hgz2).put (k + 1) true
            rw [hst] at h1
            exact ⟨h1, (hbe.out.trans (hb.mono hgz)).setCell (p := ⟨w2.heap.size, k + 1, none⟩) (Nat.le_refl _) _⟩
          have HCELL : Hid (∀ w6, Below wr.heap.size wr w6 → w6.cell? ⟨w2.heap.size, k + 1, none⟩ = some (.bool y) ∧ w6.frozen? ⟨w2.heap.size, k + 1, none⟩ = false) := fun w6 hb =>
            ⟨(hb.cell (p := ⟨w2.heap.size, k + 1, none⟩) hgz2).trans c4, (hrow.out.below hb hgz2).free (k + 1)⟩
          have HI2 := Lib.hid hi2
          clear hwl hy hst hi2 hmem hq hsq hmk c4
          go_wp2_with fail
          refine (HC2.out _).mono ?_
          rintro e w6 ⟨rfl, b6⟩
          obtain ⟨y1, y2⟩ := HCELL.out _ b6
          have B6 := Lib.hid b6
          clear b6
          go_wp2_with fail
          go_roundw
          case rel => exact ⟨k + 1, by omega, by go_num, (HEND.out w6 B6.out).1, (HEND.out w6 B6.out).2, HI2.out⟩
          case measure => simp [intOf]; omega
        · have HI : Hid (wayI ps (k + 1) = iniL ps) := by
            rcases hx with ⟨h1, h2⟩ | h1
            · exact wayI_stop (by rw [HN.out]; exact h1) h2
            · show _ = _; rw [h1, ← HN.out, wayI_end]
          have HRI : Hid (∀ wq, Below wr.heap.size wr wq → BRow wq w2.heap.size (runL ps (s.data.toList.take 0)) ∧ Below w2.heap.size w2 wq) := by
            intro wq h1
            have h2 := hrow.out.below h1 hgz2
            rw [HI.out] at h2
            exact ⟨h2, hbe.out.trans (h1.mono hgz)⟩
          have hx2 : (decide ((k : Int) < (n : Int)) = true ∧ k < n ∧ seqP (ps.getD k (0, 0)) = false) ∨ n = k := by
            rcases hx with ⟨h1, h2⟩ | h1
            · exact .inl ⟨by simp; omega, h1, h2⟩
            · exact .inr h1.symm
          clear hx HI
          rcases hx2 with ⟨hd, hlt, hsq⟩ | hkn
          focus
            have p1 : (0 : Int) ≤ (k : Int) := by omega
            have p2 : (k : Int) < (n : Int) := by omega
            have c1 := (hbe.out.cell (p := ⟨bb, k * 2, none⟩) hbb).trans (HP2.out.k k (by rw [HN.out]; exact hlt))
            have c2 := (hbe.out.cell (p := ⟨bb, k * 2 + 1, none⟩) hbb).trans (HP2.out.c k (by rw [HN.out]; exact hlt))
            have hmem : ps.getD k (0, 0) ∈ ps := by rw [List.getD_eq_getElem?_getD, List.getElem?_eq_getElem (by rw [HN.out]; exact hlt)]; exact List.getElem_mem _
            have hq3 := HK.out _ hmem
            obtain ⟨q, hq⟩ : ∃ q, ps.getD k (0, 0) = q := ⟨_, rfl⟩
            rw [hq] at c1 c2 hq3 hsq
            have HC2 := Lib.hid (fun w => refLong_any q w hq3)
            rw [hsq] at HC2
            clear hmem hq hsq hrow hbe
            go_wp2_with fail
            refine (HC2.out _).mono ?_
            rintro e w6 ⟨rfl, b6⟩
            have HRJ := Lib.hid (HRI.out _ b6)
            clear b6 c1 c2 HRI hin HC2 hq3 hd hlt p1 p2
            go_wp2_with fail
          rotate_left
          focus
            have HRJ := Lib.hid (HRI.out _ (Below.refl _ _))
            clear hrow hbe
            obtain rfl := hkn
            have hd : decide ((n : Int) < (n : Int)) = false := by simp
            clear hin HRI
            go_wp2_with fail
          all_goals
            clear hgz hgz2
            go_loopw [7, 9] (fun a i wx => ∃ (j g2 : Nat), j ≤ s.size ∧ i = .int .i64 j ∧ a = .slice (some ⟨g2, 0, none⟩) (n + 1) (n + 1) ∧ w2.heap.size ≤ g2 ∧ Hid (BRow wx g2 (runL ps (s.data.toList.take j))) ∧ Hid (Below w2.heap.size w2 wx)) (fun _ i _ => s.size - (intOf i).toNat)
            case atStart => exact ⟨0, w2.heap.size, Nat.zero_le _, rfl, rfl, Nat.le_refl _, HRJ.out.1, HRJ.out.2⟩
            case round =>
              clear HRJ
              obtain ⟨j, g2, hj, rfl, rfl, hg2, hrow, hbe⟩ := hrel
              obtain ⟨wx, hwx⟩ : ∃ wx, wx = wr := ⟨_, rfl⟩
              subst hwx
              have hgz := hbe.out.size
              have hgz2 := hrow.out.lt
              have hol := runL_length ps (s.data.toList.take j)
              rw [HN.out] at hol
              by_cases hlj : j < s.size
              · have hd2 : decide ((j : Int) < (s.size : Int)) = true := by simp; omega
                have q1 : (0 : Int) ≤ (j : Int) := by omega
                have q2 : (j : Int) < (s.size : Int) := by omega
                have HSN : Hid (advL ps (runL ps (s.data.toList.take j)) (s[j].toNat : Int) = runL ps (s.data.toList.take (j + 1))) := by
                  show _ = _
                  rw [List.take_succ_eq_append_getElem (by simpa using hlj), runL_snoc]; rfl
                obtain ⟨old, hold⟩ : ∃ old, runL ps (s.data.toList.take j) = old := ⟨_, rfl⟩
                rw [hold] at HSN hrow hol
                have HPX := Lib.hid (HP2.out.below hbe.out hbb)
                have hbbx : bb < wx.heap.size := Nat.lt_of_lt_of_le hbb hgz
                clear hold
                go_wp2_with fail
                generalize hw4 : World.alloc wx _ = w4
                obtain ⟨hr4, hb4, hz4⟩ := HZ2.out _ _ hw4
                rw [← w3_zero ps old (s[j].toNat : Int) n] at hr4
                have HR4 := Lib.hid hr4; have HB4 := Lib.hid hb4
                clear hw4 hr4 hb4 hz4
                go_loopw [11] (fun i wr => ∃ k : Nat, k ≤ n ∧ i = .int .i64 k ∧ Hid (BRow wr wx.heap.size (rowF n (w3B ps old (s[j].toNat : Int) k))) ∧ Hid (Below wx.heap.size wx wr)) (fun i _ => n - (intOf i).toNat)
                case atStart => exact ⟨0, Nat.zero_le _, rfl, HR4.out, HB4.out⟩
                case round =>
                  clear HR4 HB4
                  obtain ⟨k, hk, rfl, hrow3, hbe3⟩ := hrel
                  have hgz3 := hbe3.out.size
                  have hgz4 := hrow3.out.lt
                  by_cases hlt : k < n
                  · have hd3 : decide ((k : Int) < (n : Int)) = true := by simp; omega
                    have p1 : (0 : Int) ≤ (k : Int) := by omega
                    have p2 : (k : Int) < (n : Int) := by omega
                    have p3 : (k : Int) < (n : Int) + 1 := by omega
                    have p4 : (0 : Int) ≤ (k : Int) + 1 := by omega
                    have p5 : (k : Int) + 1 < (n : Int) + 1 := by omega
                    have p6 : ((k : Int) + 1).toNat = k + 1 := by omega
                    have c1 := (hbe3.out.cell (p := ⟨bb, k * 2, none⟩) hbbx).trans (HPX.out.k k (by rw [HN.out]; exact hlt))
                    have c2 := (hbe3.out.cell (p := ⟨bb, k * 2 + 1, none⟩) hbbx).trans (HPX.out.c k (by rw [HN.out]; exact hlt))
                    have c3 := (hbe3.out.cell (p := ⟨g2, k, none⟩) hgz2).trans (hrow.out.get k (by rw [hol]; omega))
                    have r4 := hrow3.out.get k (by rw [rowF_length]; omega)
                    have r5 := hrow3.out.get (k + 1) (by rw [rowF_length]; omega)
                    obtain ⟨y4, hy4⟩ : ∃ y, (rowF n (w3B ps old (s[j].toNat : Int) k)).getD k false = y := ⟨_, rfl⟩
                    obtain ⟨y5, hy5⟩ : ∃ y, (rowF n (w3B ps old (s[j].toNat : Int) k)).getD (k + 1) false = y := ⟨_, rfl⟩
                    rw [hy4] at r4
                    rw [hy5] at r5
                    have hno := fun (h : tT ps old (s[j].toNat : Int) k = false) => w3_no (n := n) h
                    have hsqs := fun (h : tT ps old (s[j].toNat : Int) k = true) (h2 : seqP (ps.getD k (0, 0)) = true) => w3_seq (n := n) (by rw [HN.out]; exact hlt) h h2
                    have hone := fun (h : tT ps old (s[j].toNat : Int) k = true) (h2 : seqP (ps.getD k (0, 0)) = false) => w3_one (n := n) h h2
                    have htt : tT ps old (s[j].toNat : Int) k = (old.getD k false && tkP (ps.getD k (0, 0)) (s[j].toNat : Int)) := rfl
                    have hmem : ps.getD k (0, 0) ∈ ps := by rw [List.getD_eq_getElem?_getD, List.getElem?_eq_getElem (by rw [HN.out]; exact hlt)]; exact List.getElem_mem _
                    have hq3 := HK.out _ hmem
                    obtain ⟨q, hq⟩ : ∃ q, ps.getD k (0, 0) = q := ⟨_, rfl⟩
                    rw [hq] at c1 c2 hq3 hsqs hone htt
                    obtain ⟨ob, hob⟩ : ∃ b, old.getD k false = b := ⟨_, rfl⟩
                    rw [hob] at c3 htt
                    obtain ⟨tk, htk⟩ : ∃ b, tkP q (s[j].toNat : Int) = b := ⟨_, rfl⟩
                    obtain ⟨sq, hsq⟩ : ∃ b, seqP q = b := ⟨_, rfl⟩
                    rw [htk] at htt
                    have HC1 := Lib.hid (fun w => refTakes_any q (s[j].toNat : Int) w hq3)
                    have HC2 := Lib.hid (fun w => refLong_any q w hq3)
                    rw [htk] at HC1
                    rw [hsq] at HC2 hsqs hone
                    have HNO : Hid (∀ w6, Below wr.heap.size wr w6 → (ob && tk) = false → BRow w6 wx.heap.size (rowF n (w3B ps old (s[j].toNat : Int) (k + 1))) ∧ Below wx.heap.size wx w6) := by
                      intro w6 hb h
                      have h1 := hrow3.out.below hb hgz4
                      rw [hno (by rw [htt, h])] at h1
                      exact ⟨h1, hbe3.out.trans (hb.mono hgz3)⟩
                    have HS1 : Hid (∀ w6, Below wr.heap.size wr w6 → (ob && tk) = true → sq = true → BRow (w6.setCell ⟨wx.heap.size, k, none⟩ (.bool true)) wx.heap.size (rowF n (w3B ps old (s[j].toNat : Int) (k + 1))) ∧ Below wx.heap.size wx (w6.setCell ⟨wx.heap.size, k, none⟩ (.bool true))) := by
                      intro w6 hb h h2
                      have h1 := (hrow3.out.below hb hgz4).put k true
                      rw [hsqs (by rw [htt, h]) h2] at h1
                      exact ⟨h1, (hbe3.out.trans (hb.mono hgz3)).setCell (p := ⟨wx.heap.size, k, none⟩) (Nat.le_refl _) _⟩
                    have HS2 : Hid (∀ w6, Below wr.heap.size wr w6 → (ob && tk) = true → sq = false → BRow (w6.setCell ⟨wx.heap.size, k + 1, none⟩ (.bool true)) wx.heap.size (rowF n (w3B ps old (s[j].toNat : Int) (k + 1))) ∧ Below wx.heap.size wx (w6.setCell ⟨wx.heap.size, k + 1, none⟩ (.bool true))) := by
                      intro w6 hb h h2
                      have h1 := (hrow3.out.below hb hgz4).put (k + 1) true
                      rw [hone (by rw [htt, h]) h2] at h1
                      exact ⟨h1, (hbe3.out.trans (hb.mono hgz3)).setCell (p := ⟨wx.heap.size, k + 1, none⟩) (Nat.le_refl _) _⟩
                    have HCELL : Hid (∀ w6, Below wr.heap.size wr w6 → (w6.cell? ⟨wx.heap.size, k, none⟩ = some (.bool y4) ∧ w6.frozen? ⟨wx.heap.size, k, none⟩ = false) ∧ (w6.cell? ⟨wx.heap.size, k + 1, none⟩ = some (.bool y5) ∧ w6.frozen? ⟨wx.heap.size, k + 1, none⟩ = false) ∧ w6.cell? ⟨bb, k * 2, none⟩ = some (.int .i64 (q.1 : Int)) ∧ w6.cell? ⟨bb, k * 2 + 1, none⟩ = some (.int .u8 q.2)) := fun w6 hb =>
                      ⟨⟨(hb.cell (p := ⟨wx.heap.size, k, none⟩) hgz4).trans r4, (hrow3.out.below hb hgz4).free k⟩, ⟨(hb.cell (p := ⟨wx.heap.size, k + 1, none⟩) hgz4).trans r5, (hrow3.out.below hb hgz4).free (k + 1)⟩, (hb.cell (p := ⟨bb, k * 2, none⟩) (Nat.lt_of_lt_of_le hbbx hgz3)).trans c1, (hb.cell (p := ⟨bb, k * 2 + 1, none⟩) (Nat.lt_of_lt_of_le hbbx hgz3)).trans c2⟩
                    clear hno hsqs hone htt hmem hq hob htk hsq hy4 hy5 r4 r5 hrow3 hbe3 hmk
                    cases ob
                    · have HE : Hid (∀ m, BRow (wr.drewN m) wx.heap.size (rowF n (w3B ps old (s[j].toNat : Int) (k + 1))) ∧ Below wx.heap.size wx (wr.drewN m)) := fun m => HNO.out _ (below_drewN (Below.refl _ _) m) rfl
                      clear HNO HS1 HS2 HCELL HC1 HC2
                      go_wp2_with fail
                      go_quiet (fail)
                      go_wp2_with fail
                      go_roundw
                      case rel => exact ⟨k + 1, by omega, by go_num, (HE.out _).1, (HE.out _).2⟩
                      case measure => simp [intOf]; omega
                    · have HKEEP : Hid (∀ w', Below wr.heap.size wr w' → w'.cell? ⟨g2, k, none⟩ = some (.bool true) ∧ w'.cell? ⟨bb, k * 2, none⟩ = some (.int .i64 (q.1 : Int)) ∧ w'.cell? ⟨bb, k * 2 + 1, none⟩ = some (.int .u8 q.2)) := fun w' h =>
                        ⟨(h.cell (p := ⟨g2, k, none⟩) (Nat.lt_of_lt_of_le hgz2 hgz3)).trans c3, (HCELL.out _ h).2.2.1, (HCELL.out _ h).2.2.2⟩
                      cases tk
                      all_goals
                        go_wp2_with fail
                        go_region_held3 (fun w' => w'.cell? ⟨g2, k, none⟩ = some (.bool true) ∧ w'.cell? ⟨bb, k * 2, none⟩ = some (.int .i64 (q.1 : Int)) ∧ w'.cell? ⟨bb, k * 2 + 1, none⟩ = some (.int .u8 q.2)) (first | exact HKEEP.out _ (Below.refl _ _) | exact HKEEP.out _ (Below.refl _ _).drew | exact HKEEP.out _ (by assumption)) (first
                          | (go_at_call 57; (with_reducible refine (HC1.out _).mono ?_); rintro e w5 ⟨rfl, b5⟩; have bw : Below wr.heap.size wr w5 := (Below.refl _ _).drew.trans b5))
                      · have HE := Lib.hid (HNO.out _ bw rfl)
                        clear HNO HS1 HS2 HCELL HC1 HC2 b5 c1 c2 c3
                        go_wp2_with fail
                        go_roundw
                        case rel => exact ⟨k + 1, by omega, by go_num, HE.out.1, HE.out.2⟩
                        case measure => simp [intOf]; omega
                      · obtain ⟨_, _, c1', c2'⟩ := HCELL.out _ bw
                        have B5 := Lib.hid bw
                        clear b5 c1 c2 c3 bw
                        go_wp2_with fail
                        refine (HC2.out _).mono ?_
                        rintro e w6 ⟨rfl, b6⟩
                        have b6 := B5.out.trans (b6.mono B5.out.size)
                        have B6 := Lib.hid b6
                        obtain ⟨⟨y1, y2⟩, ⟨y3, y4⟩, _, _⟩ := HCELL.out _ b6
                        clear b6 c1' c2' HNO HC1 HC2 HCELL
                        cases sq
                        · have HE := Lib.hid (HS2.out _ B6.out rfl rfl)
                          clear HS1 HS2
                          go_wp2_with fail
                          go_roundw
                          case rel => exact ⟨k + 1, by omega, by go_num, HE.out.1, HE.out.2⟩
                          case measure => simp [intOf]; omega
                        · have HE := Lib.hid (HS1.out _ B6.out rfl rfl)
                          clear HS1 HS2
                          go_wp2_with fail
                          go_roundw
                          case rel => exact ⟨k + 1, by omega, by go_num, HE.out.1, HE.out.2⟩
                          case measure => simp [intOf]; omega
                  · obtain rfl : n = k := by omega
                    have hd3 : decide ((n : Int) < (n : Int)) = false := by simp
                    have h34 := w34 ps old (s[j].toNat : Int)
                    rw [HN.out] at h34
                    have HR5 : Hid (BRow wr wx.heap.size (rowF n (w4B ps old (s[j].toNat : Int) 0))) := by
                      show BRow _ _ _; rw [← h34]; exact hrow3.out
                    have HB5 := hbe3
                    clear hrow3 hbe3 h34 hgz3 hgz4 hmk
                    go_wp2_with fail
                    clear hd3
                    go_loopw [12] (fun i wr => ∃ k : Nat, k ≤ n ∧ i = .int .i64 k ∧ Hid (BRow wr wx.heap.size (rowF n (w4B ps old (s[j].toNat : Int) k))) ∧ Hid (Below wx.heap.size wx wr)) (fun i _ => n - (intOf i).toNat)
                    case atStart => exact ⟨0, Nat.zero_le _, rfl, HR5.out, HB5.out⟩
                    case round =>
                      clear HR5 HB5 hk
                      obtain ⟨k, hk, rfl, hrow3, hbe3⟩ := hrel
                      have hgz3 := hbe3.out.size
                      have hgz4 := hrow3.out.lt
                      by_cases hlt : k < n
                      · have hd3 : decide ((k : Int) < (n : Int)) = true := by simp; omega
                        have p1 : (0 : Int) ≤ (k : Int) := by omega
                        have p2 : (k : Int) < (n : Int) := by omega
                        have p3 : (k : Int) < (n : Int) + 1 := by omega
                        have p4 : (0 : Int) ≤ (k : Int) + 1 := by omega
                        have p5 : (k : Int) + 1 < (n : Int) + 1 := by omega
                        have p6 : ((k : Int) + 1).toNat = k + 1 := by omega
                        have c1 := (hbe3.out.cell (p := ⟨bb, k * 2, none⟩) hbbx).trans (HPX.out.k k (by rw [HN.out]; exact hlt))
                        have c2 := (hbe3.out.cell (p := ⟨bb, k * 2 + 1, none⟩) hbbx).trans (HPX.out.c k (by rw [HN.out]; exact hlt))
                        have r4 := hrow3.out.get k (by rw [rowF_length]; omega)
                        rw [w4_at _ _ _ _ _ (by omega)] at r4
                        have r5 := hrow3.out.get (k + 1) (by rw [rowF_length]; omega)
                        obtain ⟨y5, hy5⟩ : ∃ y, (rowF n (w4B ps old (s[j].toNat : Int) k)).getD (k + 1) false = y := ⟨_, rfl⟩
                        rw [hy5] at r5
                        have hno := fun (h : (nvc ps old (s[j].toNat : Int) k && seqP (ps.getD k (0, 0))) = false) => w4_no (n := n) (by rw [HN.out]; exact hlt) h
                        have hyes := fun (h : nvc ps old (s[j].toNat : Int) k = true) (h2 : seqP (ps.getD k (0, 0)) = true) => w4_yes (n := n) h (by rw [HN.out]; exact hlt) h2
                        have hmem : ps.getD k (0, 0) ∈ ps := by rw [List.getD_eq_getElem?_getD, List.getElem?_eq_getElem (by rw [HN.out]; exact hlt)]; exact List.getElem_mem _
                        have hq3 := HK.out _ hmem
                        obtain ⟨q, hq⟩ : ∃ q, ps.getD k (0, 0) = q := ⟨_, rfl⟩
                        rw [hq] at c1 c2 hq3 hno hyes
                        obtain ⟨nb, hnb⟩ : ∃ b, nvc ps old (s[j].toNat : Int) k = b := ⟨_, rfl⟩
                        rw [hnb] at r4 hno hyes
                        obtain ⟨sq, hsq⟩ : ∃ b, seqP q = b := ⟨_, rfl⟩
                        have HC2 := Lib.hid (fun w => refLong_any q w hq3)
                        rw [hsq] at HC2 hno hyes
                        have HNO : Hid (∀ w6, Below wr.heap.size wr w6 → (nb && sq) = false → BRow w6 wx.heap.size (rowF n (w4B ps old (s[j].toNat : Int) (k + 1))) ∧ Below wx.heap.size wx w6) := by
                          intro w6 hb h
                          have h1 := hrow3.out.below hb hgz4
                          rw [hno h] at h1
                          exact ⟨h1, hbe3.out.trans (hb.mono hgz3)⟩
                        have HS2 : Hid (∀ w6, Below wr.heap.size wr w6 → nb = true → sq = true → BRow (w6.setCell ⟨wx.heap.size, k + 1, none⟩ (.bool true)) wx.heap.size (rowF n (w4B ps old (s[j].toNat : Int) (k + 1))) ∧ Below wx.heap.size wx (w6.setCell ⟨wx.heap.size, k + 1, none⟩ (.bool true))) := by
                          intro w6 hb h h2
                          have h1 := (hrow3.out.below hb hgz4).put (k + 1) true
                          rw [hyes h h2] at h1
                          exact ⟨h1, (hbe3.out.trans (hb.mono hgz3)).setCell (p := ⟨wx.heap.size, k + 1, none⟩) (Nat.le_refl _) _⟩
                        have HCELL : Hid (∀ w6, Below wr.heap.size wr w6 → w6.cell? ⟨wx.heap.size, k + 1, none⟩ = some (.bool y5) ∧ w6.frozen? ⟨wx.heap.size, k + 1, none⟩ = false) := fun w6 hb =>
                          ⟨(hb.cell (p := ⟨wx.heap.size, k + 1, none⟩) hgz4).trans r5, (hrow3.out.below hb hgz4).free (k + 1)⟩
                        clear hno hyes hmem hq hnb hsq hy5 r5 hrow3 hbe3
                        cases nb
                        · have HE := Lib.hid (HNO.out _ (Below.refl _ _) rfl)
                          clear HNO HS2 HCELL HC2
                          go_wp2_with fail
                          go_roundw
                          case rel => exact ⟨k + 1, by omega, by go_num, HE.out.1, HE.out.2⟩
                          case measure => simp [intOf]; omega
                        · go_wp2_with fail
                          refine (HC2.out _).mono ?_
                          rintro e w6 ⟨rfl, b6⟩
                          have B6 := Lib.hid b6
                          obtain ⟨y1, y2⟩ := HCELL.out _ b6
                          clear b6 c1 c2 r4 HC2 HCELL
                          cases sq
                          · have HE := Lib.hid (HNO.out _ B6.out rfl)
                            clear HNO HS2
                            go_wp2_with fail
                            go_roundw
                            case rel => exact ⟨k + 1, by omega, by go_num, HE.out.1, HE.out.2⟩
                            case measure => simp [intOf]; omega
                          · have HE := Lib.hid (HS2.out _ B6.out (by first | rfl | trivial) (by first | rfl | trivial))
                            clear HNO HS2
                            go_wp2_with fail
                            go_roundw
                            case rel => exact ⟨k + 1, by omega, by go_num, HE.out.1, HE.out.2⟩
                            case measure => simp [intOf]; omega
                      · obtain rfl : n = k := by omega
                        have hd3 : decide ((n : Int) < (n : Int)) = false := by simp
                        have h4 := w4_end ps old (s[j].toNat : Int)
                        rw [HN.out, HSN.out] at h4
                        have HE : Hid (BRow wr wx.heap.size (runL ps (s.data.toList.take (j + 1))) ∧ Below w2.heap.size w2 wr) := by
                          refine ⟨?_, hbe.out.trans (hbe3.out.mono hgz)⟩
                          rw [← h4]; exact hrow3.out
                        clear h4 hrow3 hbe3
                        go_wp2_with fail
                        go_roundw
                        case rel => exact ⟨j + 1, wx.heap.size, by omega, by go_num, rfl, by omega, HE.out.1, HE.out.2⟩
                        case measure => simp [intOf]; omega
              · obtain rfl : j = s.size := by omega
                have hd2 : decide ((s.size : Int) < (s.size : Int)) = false := by simp
                have c3 := hrow.out.get n (by rw [hol]; omega)
                rw [List.take_of_length_le (by rw [← Lib.size_eq]; exact Nat.le_refl _)] at c3
                have HX : Hid (concB ps s.data.toList = (runL ps s.data.toList).getD n false) := by show _ = _; unfold concB; rw [HN.out]
                obtain ⟨y, hy⟩ : ∃ y, (runL ps s.data.toList).getD n false = y := ⟨_, rfl⟩
                rw [hy] at c3 HX
                have p1 : (0 : Int) ≤ (n : Int) := by omega
                have p3 : (n : Int) < (n : Int) + 1 := by omega
                have HB9 := Lib.hid (HB2.out.trans (hbe.out.mono HB2.out.size))
                clear hy hrow hmk hbe
                go_wp2_with fail
                go_ret
                exact ⟨by rw [HM.out, HX.out]; rfl, HB9.out⟩
end Go.Proofs.YtmafefdchglpbaaDoor
