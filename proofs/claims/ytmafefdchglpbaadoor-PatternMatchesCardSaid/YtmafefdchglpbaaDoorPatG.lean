/-
  The walk of pattern.concatenates: whether a string is a concatenation for parts (conditions: at least one part, at most 200, each of a kind of at most 3; a string of at most 1000000 bytes).
-/
import Derived.Test.YtmafefdchglpbaaDoorPatF
import Derived.Deep.OwnRows
namespace Go.Proofs.YtmafefdchglpbaaDoor
open Go.RowKit

/-- a row of n times false, its value behind a name -/
def zBo (n : Nat) : Array Value := ((List.replicate n false).map Value.bool).toArray
theorem zBo_made (n : Nat) : madeCells #[Value.bool false] n = zBo n := by
  apply Array.ext'
  rw [toList_madeCells_one]; simp [zBo]
theorem makeB (n : Nat) (h : n ≤ 1000) (w : World) : (Instr.makeSlice 80 (.int .i64 ((n : Int) + 1)) (.int .i64 ((n : Int) + 1))).run Tryd.prog w = .ok (.slice (some ⟨w.heap.size, 0, none⟩) (n + 1) (n + 1)) (w.alloc (.cells (zBo (n + 1)) 4)) := by
  have h1 := run_make_row' (P := Tryd.prog) 80 4 (.bool false) 1 Tryd.underlying80 (by kernel_rfl) rfl .i64 .i64 (n + 1) (by omega) (by omega) w
  rw [zBo_made] at h1
  exact h1
theorem zBo_row (w : World) (n : Nat) : BRow (w.alloc (.cells (zBo n) 4)) w.heap.size (List.replicate n false) := heap_alloc_new w _
set_option maxRecDepth 100000 in
set_option maxHeartbeats 1000000 in
theorem conc_any (bb n cap : Nat) (ps : List Pt) (s : ByteArray) (w : World) (hn : ps.length = n) (hn2 : n ≤ 200) (hcap : n ≤ cap) (hp : PIn w bb ps) (hbb : bb < w.heap.size) (hk3 : ∀ q ∈ ps, q.1 ≤ 3) (hs : s.size ≤ 1000000) :
    Calls Tryd.prog 55 #[.slice (some ⟨bb, 0, none⟩) n cap, .string s] w fun e w' => e = .returned (.bool (concB ps s.data.toList)) ∧ Below w.heap.size w w' := by
  have hmk := makeB n (by omega)
  have HN := Lib.hid hn; have HP := Lib.hid hp; have HK := Lib.hid hk3
  have HZ : Hid (∀ w1, w.alloc (.cells ((zBo (n + 1)).setIfInBounds 0 (.bool true)) 4) = w1 → BRow w1 w.heap.size (wayI ps 1) ∧ Below w.heap.size w w1 ∧ w1.heap.size = w.heap.size + 1) := by
    rintro w1 rfl
    refine ⟨?_, (Below.refl _ _).alloc (Nat.le_refl _) _, by simp⟩
    have e : (zBo (n + 1)).setIfInBounds 0 (.bool true) = ((wayI ps 1).map Value.bool).toArray := by
      unfold wayI zBo; rw [hn]; simp [List.replicate_succ]; rfl
    rw [e]
    exact heap_alloc_new w _
  clear hn hp hk3
  have hz0 : (zBo (n + 1))[0]? = some (.bool false) := by simp [zBo]
  go_enter Tryd.func55, Tryd.ntmps55
  go_wp2_with fail
  generalize hw1 : World.alloc w _ = w1
  obtain ⟨hr1, hb1, hz1⟩ := HZ.out _ hw1
  have HR1 := Lib.hid hr1; have HB1 := Lib.hid hb1
  clear hw1 hr1 HZ hmk hz0
  have hw1s : w.heap.size < w1.heap.size := by omega
  clear hb1 hz1
  go_loopw [17] (fun i wr => ∃ k : Nat, k ≤ n ∧ i = .int .i64 k ∧ Hid (BRow wr w.heap.size (wayI ps (k + 1))) ∧ Hid (Below w.heap.size w wr)) (fun i _ => n - (intOf i).toNat)
  case atStart => exact ⟨0, Nat.zero_le _, rfl, HR1.out, HB1.out⟩
  case round =>
    clear HR1 HB1
    obtain ⟨k, hk, rfl, hrow, hbe⟩ := hrel
    have hgz := hbe.out.size
    have hgz2 := hrow.out.lt
    by_cases hlt : k < n
    · have hd : decide ((k : Int) < (n : Int)) = true := by simp; omega
      have p1 : (0 : Int) ≤ (k : Int) := by omega
      have p2 : (k : Int) < (n : Int) := by omega
      have p3 : (k : Int) < (n : Int) + 1 := by omega
      have p4 : (0 : Int) ≤ (k : Int) + 1 := by omega
      have p5 : (k : Int) + 1 < (n : Int) + 1 := by omega
      have p6 : ((k : Int) + 1).toNat = k + 1 := by omega
      have c1 := (hbe.out.cell (p := ⟨bb, k * 2, none⟩) hbb).trans (HP.out.k k (by rw [HN.out]; exact hlt))
      have c2 := (hbe.out.cell (p := ⟨bb, k * 2 + 1, none⟩) hbb).trans (HP.out.c k (by rw [HN.out]; exact hlt))
      have hwl : (wayI ps (k + 1)).length = n + 1 := by rw [wayI_length _ _ (by rw [HN.out]; omega), HN.out]
      have c3 := hrow.out.get k (by rw [hwl]; omega)
      rw [wayI_get ps (k + 1) k (by omega)] at c3
      have c4 := hrow.out.get (k + 1) (by rw [hwl]; omega)
      obtain ⟨y, hy⟩ : ∃ y, (wayI ps (k + 1)).getD (k + 1) false = y := ⟨_, rfl⟩
      rw [hy] at c4
      have HSET := Lib.hid (wayI_set ps (k + 1) (by rw [HN.out]; omega))
      have hsu := ini_succ ps k
      have hmem : ps.getD k (0, 0) ∈ ps := by rw [List.getD_eq_getElem?_getD, List.getElem?_eq_getElem (by rw [HN.out]; exact hlt)]; exact List.getElem_mem _
      have hq3 := HK.out _ hmem
      obtain ⟨q, hq⟩ : ∃ q, ps.getD k (0, 0) = q := ⟨_, rfl⟩
      rw [hq] at c1 c2 hq3 hsu
      obtain ⟨ob, hob⟩ : ∃ b, ini ps k = b := ⟨_, rfl⟩
      rw [hob] at c3 hsu
      obtain ⟨sq, hsq⟩ : ∃ b, seqP q = b := ⟨_, rfl⟩
      have HC2 := Lib.hid (fun w => sequence_any q w hq3)
      rw [hsq] at HC2 hsu
      have HSU := Lib.hid hsu
      have HF : Hid (∀ w1, wr.alloc (.cells #[.int .i64 (q.1 : Int), .int .u8 q.2] 93) = w1 → Below wr.heap.size wr w1 ∧ wr.heap.size < w1.heap.size ∧ w1.cell? ⟨wr.heap.size, 0, none⟩ = some (.int .i64 (q.1 : Int)) ∧ w1.cell? ⟨wr.heap.size, 1, none⟩ = some (.int .u8 q.2)) := by
        rintro w1 rfl
        have hb := heap_alloc_new wr (.cells #[.int .i64 (q.1 : Int), .int .u8 q.2] 93)
        exact ⟨(Below.refl _ _).alloc (Nat.le_refl _) _, by simp, by rw [cell_of_row _ _ 0 _ _ _ hb]; rfl, by rw [cell_of_row _ _ 1 _ _ _ hb]; rfl⟩
      have HEND : Hid (∀ w6 X, Below wr.heap.size wr w6 → X = ini ps (k + 1) → BRow (w6.setCell ⟨w.heap.size, k + 1, none⟩ (.bool X)) w.heap.size (wayI ps (k + 1 + 1)) ∧ Below w.heap.size w (w6.setCell ⟨w.heap.size, k + 1, none⟩ (.bool X))) := by
        rintro w6 X hb rfl
        have h1 := (hrow.out.below hb hgz2).put (k + 1) (ini ps (k + 1))
        rw [HSET.out] at h1
        exact ⟨h1, (hbe.out.trans (hb.mono hgz)).setCell (p := ⟨w.heap.size, k + 1, none⟩) (Nat.le_refl _) _⟩
      have HCELL : Hid (∀ w6, Below wr.heap.size wr w6 → w6.cell? ⟨w.heap.size, k + 1, none⟩ = some (.bool y) ∧ w6.frozen? ⟨w.heap.size, k + 1, none⟩ = false) := fun w6 hb =>
        ⟨(hb.cell (p := ⟨w.heap.size, k + 1, none⟩) hgz2).trans c4, (hrow.out.below hb hgz2).free (k + 1)⟩
      have f4 := hrow.out.free (k + 1)
      clear hwl hy hsu hmem hq hob hsq
      cases ob
      · clear HC2
        go_wp2_with fail
        go_roundw
        case rel =>
          have h := HEND.out wr false (Below.refl _ _) (by rw [HSU.out]; rfl)
          have hz : (wr.setCell ⟨w.heap.size, k + 1, none⟩ (.bool false)).heap.size = wr.heap.size := by simp [World.setCell]
          exact ⟨k + 1, by omega, by go_num, h.1.below ((Below.refl _ _).alloc (Nat.le_refl _) _) (by rw [hz]; exact hgz2), h.2.alloc (by rw [hz]; exact hgz) _⟩
        case measure => simp [intOf]; omega
      · clear c4 f4
        cases sq
        all_goals
          go_wp2_with fail
          generalize hw1 : World.alloc wr _ = w1
          obtain ⟨b1, s1, x1, x2⟩ := HF.out _ hw1
          clear hw1
          refine (HC2.out _).mono ?_
          rintro e w6 ⟨rfl, b6⟩
          have bw := b1.trans (b6.mono b1.size)
          obtain ⟨y1, y2⟩ := HCELL.out _ bw
          have BW := Lib.hid bw
          clear x1 x2 s1 b1 b6 bw c1 c2 c3
          go_wp2_with fail
          go_roundw
          case rel =>
            exact ⟨k + 1, by omega, by go_num, (HEND.out w6 _ BW.out (by rw [HSU.out]; rfl)).1, (HEND.out w6 _ BW.out (by rw [HSU.out]; rfl)).2⟩
          case measure => simp [intOf]; omega
    · obtain rfl : k = n := by omega
      have hd : decide ((k : Int) < (k : Int)) = false := by simp
      have HRI : Hid (BRow wr w.heap.size (runL ps (s.data.toList.take 0))) := by
        have h1 := hrow.out
        have he := wayI_end ps
        rw [HN.out] at he
        rw [he] at h1
        exact h1
      have HBI := hbe
      clear hrow hbe
      go_wp2_with fail
      go_loopw [37] (fun i wx => ∃ j : Nat, j ≤ s.size ∧ i = .int .i64 j ∧ Hid (BRow wx w.heap.size (runL ps (s.data.toList.take j))) ∧ Hid (Below w.heap.size w wx)) (fun i _ => s.size - (intOf i).toNat)
      case atStart => exact ⟨0, Nat.zero_le _, rfl, HRI.out, HBI.out⟩
      case round =>
        clear HRI HBI
        obtain ⟨j, hj, rfl, hrow, hbe⟩ := hrel
        have hgz := hbe.out.size
        have hgz2 := hrow.out.lt
        by_cases hlj : j < s.size
        · have hd2 : decide ((j : Int) < (s.size : Int)) = true := by simp; omega
          have q1 : (0 : Int) ≤ (j : Int) := by omega
          have q2 : (j : Int) < (s.size : Int) := by omega
          have hpw : PIn _ bb ps := ⟨fun i hi => (hbe.out.cell (p := ⟨bb, i * 2, none⟩) hbb).trans (HP.out.k i hi), fun i hi => (hbe.out.cell (p := ⟨bb, i * 2 + 1, none⟩) hbb).trans (HP.out.c i hi)⟩
          have HC := Lib.hid (advance_any w.heap.size bb k cap ps (runL ps (s.data.toList.take j)) (s[j].toNat : Int) _ hrow.out (by rw [runL_length, HN.out]) HN.out hn2 hcap hpw (by omega) (by omega) HK.out)
          have HSN : Hid (advL ps (runL ps (s.data.toList.take j)) (s[j].toNat : Int) = runL ps (s.data.toList.take (j + 1))) := by
            show _ = _
            rw [List.take_succ_eq_append_getElem (by simpa using hlj), runL_snoc]; rfl
          clear hpw
          go_wp2_with fail
          refine HC.out.mono ?_
          rintro e w6 ⟨rfl, hr6, hg6⟩
          rw [HSN.out] at hr6
          have HR6 := Lib.hid hr6
          have HB6 := Lib.hid (hbe.out.grown hg6 hgz (fun k e => by cases e; exact Nat.le_refl _))
          clear hr6 hg6
          go_wp2_with fail
          go_roundw
          case rel => exact ⟨j + 1, by omega, by go_num, HR6.out, HB6.out⟩
          case measure => simp [intOf]; omega
        · obtain rfl : j = s.size := by omega
          have hd2 : decide ((s.size : Int) < (s.size : Int)) = false := by simp
          have c3 := hrow.out.get k (by rw [runL_length, HN.out]; omega)
          rw [List.take_of_length_le (by rw [← Lib.size_eq]; exact Nat.le_refl _)] at c3
          have HX : Hid (concB ps s.data.toList = (runL ps s.data.toList).getD k false) := by show _ = _; unfold concB; rw [HN.out]
          obtain ⟨y, hy⟩ : ∃ y, (runL ps s.data.toList).getD k false = y := ⟨_, rfl⟩
          rw [hy] at c3 HX
          have p1 : (0 : Int) ≤ (k : Int) := by omega
          have p3 : (k : Int) < (k : Int) + 1 := by omega
          clear hy hrow
          go_wp2_with fail
          go_ret
          exact ⟨by rw [HX.out]; rfl, hbe.out⟩
end Go.Proofs.YtmafefdchglpbaaDoor
