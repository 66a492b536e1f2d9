/-
  The walk of pattern.advance: one byte more (conditions: the row is a whole block of bools, the parts lie elsewhere, at most 200 of them).
-/
import Derived.Test.YtmafefdchglpbaaDoorPatE
import Derived.Deep.RegionHeld3
namespace Go.Proofs.YtmafefdchglpbaaDoor
open Go.RowKit

/-- a block that is a row of bools -/
def BRow (w : World) (g : Nat) (L : List Bool) : Prop := w.heap[g]? = some (.cells (L.map Value.bool).toArray 4 (0, 0))
theorem BRow.lt {w : World} {g : Nat} {L : List Bool} (h : BRow w g L) : g < w.heap.size := (Array.getElem?_eq_some_iff.1 h).1
theorem BRow.get {w : World} {g : Nat} {L : List Bool} (h : BRow w g L) (i : Nat) (hi : i < L.length) : w.cell? ⟨g, i, none⟩ = some (.bool (L.getD i false)) := by
  rw [cell_of_row w g i _ _ _ h]; simp [hi]
theorem BRow.free {w : World} {g : Nat} {L : List Bool} (h : BRow w g L) (i : Nat) : w.frozen? ⟨g, i, none⟩ = false := by
  unfold BRow at h; simp [World.frozen?, h]
theorem BRow.put {w : World} {g : Nat} {L : List Bool} (h : BRow w g L) (i : Nat) (b : Bool) : BRow (w.setCell ⟨g, i, none⟩ (.bool b)) g (L.set i b) := by
  unfold BRow at h ⊢
  simp [World.setCell, Array.getElem?_modify, h, List.map_set]
theorem BRow.below {w w' : World} {g B : Nat} {L : List Bool} (h : BRow w g L) (hb : Below B w w') (hg : g < B) : BRow w' g L := (hb.block g hg).trans h
theorem grown_below {a w w' : World} {row : Option Nat} (h : a.grownBy w row) (hb : Below w.heap.size w w') : a.grownBy w' row :=
  ⟨hb.os.trans h.os, hb.tape.trans h.tape, hb.output.trans h.output, Nat.le_trans h.size hb.size, fun k hk hn => (hb.block k (Nat.lt_of_lt_of_le hk h.size)).trans (h.block k hk hn)⟩
theorem grown_setP {a w : World} {g : Nat} (h : a.grownBy w (some g)) (i : Nat) (u : Value) : a.grownBy (w.setCell ⟨g, i, none⟩ u) (some g) :=
  ⟨h.os, h.tape, h.output, by simpa [World.setCell] using h.size, fun k hk hne => (Below.heap_setCell w ⟨g, i, none⟩ u k (by intro e; exact hne (by rw [e]))).trans (h.block k hk hne)⟩
/-- parts in memory -/
structure PIn (w : World) (bb : Nat) (ps : List Pt) : Prop where
  k : ∀ i, i < ps.length → w.cell? ⟨bb, i * 2, none⟩ = some (.int .i64 ((ps.getD i (0, 0)).1 : Int))
  c : ∀ i, i < ps.length → w.cell? ⟨bb, i * 2 + 1, none⟩ = some (.int .u8 (ps.getD i (0, 0)).2)
theorem PIn.grown {w w' : World} {bb g : Nat} {ps : List Pt} (h : PIn w bb ps) (hg : w.grownBy w' (some g)) (hb : bb < w.heap.size) (hne : bb ≠ g) : PIn w' bb ps :=
  ⟨fun i hi => (World.cell?_of_block (a := ⟨bb, i * 2, none⟩) (hg.block bb hb (by intro e; injection e with e; exact hne e))).trans (h.k i hi), fun i hi => (World.cell?_of_block (a := ⟨bb, i * 2 + 1, none⟩) (hg.block bb hb (by intro e; injection e with e; exact hne e))).trans (h.c i hi)⟩

set_option maxRecDepth 100000 in
set_option maxHeartbeats 1000000 in
theorem advance_any (g bb n cap : Nat) (ps : List Pt) (old : List Bool) (c : Int) (w : World) (hrow : BRow w g old) (hlen : old.length = n + 1) (hn : ps.length = n) (hn2 : n ≤ 200) (hcap : n ≤ cap) (hp : PIn w bb ps) (hbb : bb < w.heap.size) (hne : bb ≠ g) (hk3 : ∀ q ∈ ps, q.1 ≤ 3) :
    Calls Tryd.prog 77 #[.slice (some ⟨g, 0, none⟩) (n + 1) (n + 1), .slice (some ⟨bb, 0, none⟩) n cap, .int .u8 c] w fun e w' => e = .returned (.tuple #[]) ∧ BRow w' g (advL ps old c) ∧ w.grownBy w' (some g) := by
  have HN := Lib.hid hn; have HL := Lib.hid hlen; have HP := Lib.hid hp; have HROW := Lib.hid hrow; have HK := Lib.hid hk3
  have hgw := hrow.lt
  clear hn hlen hp hrow hk3
  go_enter Tryd.func77, Tryd.ntmps77
  go_wp2_with fail
  go_loopw [6, 12] (fun v i wr => ∃ k : Nat, k ≤ n ∧ i = .int .i64 k ∧ v = .bool (arr ps old c k) ∧ Hid (BRow wr g (wayA ps old c k)) ∧ Hid (w.grownBy wr (some g))) (fun _ i _ => n - (intOf i).toNat)
  case atStart => exact ⟨0, Nat.zero_le _, rfl, rfl, HROW.out, World.grownBy.refl _ _⟩
  case round =>
    obtain ⟨k, hk, rfl, rfl, hrow, hgr⟩ := hrel
    have hgz := hgr.out.size
    have hgz2 := hrow.out.lt
    by_cases hlt : k < n
    · have hd : decide ((k : Int) < (n : Int)) = true := by simp; omega
      have p1 : (0 : Int) ≤ (k : Int) := by omega
      have p2 : (k : Int) < (n : Int) := by omega
      have p3 : (k : Int) < (n : Int) + 1 := by omega
      have hP := HP.out.grown hgr.out hbb hne
      have c1 := hP.k k (by rw [HN.out]; exact hlt)
      have c2 := hP.c k (by rw [HN.out]; exact hlt)
      have c3 := hrow.out.get k (by rw [wayA_length _ _ _ _ (by rw [HN.out]; exact HL.out) (by rw [HN.out]; omega), HN.out]; omega)
      rw [wayA_get] at c3
      clear hP
      have hrl : k < (wayA ps old c k).length := by rw [wayA_length _ _ _ _ (by rw [HN.out]; exact HL.out) (by rw [HN.out]; omega), HN.out]; omega
      have HSET := Lib.hid (wayA_set ps old c k (by rw [HL.out]; omega))
      have hseq := fun h => nvc_seq (ps := ps) (old := old) (c := c) (i := k) (by rw [HN.out]; exact hlt) h
      have hone := fun h => nvc_one (ps := ps) (old := old) (c := c) (i := k) h
      have hmem : ps.getD k (0, 0) ∈ ps := by rw [List.getD_eq_getElem?_getD, List.getElem?_eq_getElem (by rw [HN.out]; exact hlt)]; exact List.getElem_mem _
      have hq3 := HK.out _ hmem
      obtain ⟨q, hq⟩ : ∃ q, ps.getD k (0, 0) = q := ⟨_, rfl⟩
      rw [hq] at c1 c2 hq3 hseq hone
      obtain ⟨ob, hob⟩ : ∃ b, old.getD k false = b := ⟨_, rfl⟩
      rw [hob] at c3 hseq hone
      obtain ⟨A, hA⟩ : ∃ b, arr ps old c k = b := ⟨_, rfl⟩
      rw [hA] at hseq hone ⊢
      obtain ⟨tk, htk⟩ : ∃ b, tkP q c = b := ⟨_, rfl⟩
      rw [htk] at hseq hone
      obtain ⟨sq, hsq⟩ : ∃ b, seqP q = b := ⟨_, rfl⟩
      rw [hsq] at hseq hone
      have HARR : Hid (arr ps old c (k + 1) = if sq = true then (A || (ob && tk)) else (ob && tk)) := by
        show _ = _
        cases sq
        · rw [if_neg (by simp)]; exact (hone rfl).2
        · rw [if_pos rfl, (hseq rfl).2]; exact (hseq rfl).1
      have HNV : Hid (nvc ps old c k = if sq = true then (A || (ob && tk)) else A) := by
        show _ = _
        cases sq
        · rw [if_neg (by simp)]; exact (hone rfl).1
        · rw [if_pos rfl]; exact (hseq rfl).1
      have HC1 := Lib.hid (fun w => takes_any q c w hq3)
      have HC2 := Lib.hid (fun w => sequence_any q w hq3)
      rw [htk] at HC1
      rw [hsq] at HC2
      have HF : Hid (∀ w1, wr.alloc (.cells #[.int .i64 (q.1 : Int), .int .u8 q.2] 93) = w1 → Below wr.heap.size wr w1 ∧ wr.heap.size < w1.heap.size ∧ w1.cell? ⟨wr.heap.size, 0, none⟩ = some (.int .i64 (q.1 : Int)) ∧ w1.cell? ⟨wr.heap.size, 1, none⟩ = some (.int .u8 q.2)) := by
        rintro w1 rfl
        have hb := heap_alloc_new wr (.cells #[.int .i64 (q.1 : Int), .int .u8 q.2] 93)
        exact ⟨(Below.refl _ _).alloc (Nat.le_refl _) _, by simp, by rw [cell_of_row _ _ 0 _ _ _ hb]; rfl, by rw [cell_of_row _ _ 1 _ _ _ hb]; rfl⟩
      have HEND : Hid (∀ w6 X, Below wr.heap.size wr w6 → X = nvc ps old c k → BRow (w6.setCell ⟨g, k, none⟩ (.bool X)) g (wayA ps old c (k + 1)) ∧ w.grownBy (w6.setCell ⟨g, k, none⟩ (.bool X)) (some g)) := by
        rintro w6 X hb rfl
        have h1 := (hrow.out.below hb hgz2).put k (nvc ps old c k)
        rw [HSET.out] at h1
        exact ⟨h1, grown_setP (grown_below hgr.out hb) _ _⟩
      have HCELL : Hid (∀ w6, Below wr.heap.size wr w6 → w6.cell? ⟨g, k, none⟩ = some (.bool ob) ∧ w6.frozen? ⟨g, k, none⟩ = false) := fun w6 hb =>
        ⟨(hb.cell (p := ⟨g, k, none⟩) hgz2).trans c3, (hrow.out.below hb hgz2).free k⟩
      clear hseq hone hmem hq hob hA htk hsq hrl hrow hgr
      cases ob
      · cases A <;> cases sq
        all_goals
          go_wp2_with fail
          generalize hw1 : World.alloc wr _ = w1
          obtain ⟨b1, s1, x1, x2⟩ := HF.out _ hw1
          clear hw1
          refine (HC2.out _).mono ?_
          rintro e w6 ⟨rfl, b6⟩
          have bw := b1.trans (b6.mono b1.size)
          obtain ⟨y1, y2⟩ := HCELL.out _ bw
          have BW := Lib.hid bw
          clear x1 x2 s1 b1 b6 bw c1 c2 c3
          go_wp2_with fail
          go_roundw
          case rel =>
            refine ⟨k + 1, by omega, by go_num, ?_, (HEND.out w6 _ BW.out (by rw [HNV.out]; rfl)).1, (HEND.out w6 _ BW.out (by rw [HNV.out]; rfl)).2⟩
            rw [HARR.out]; rfl
          case measure => simp [intOf]; omega
      · cases A <;> cases sq
        all_goals
          go_wp2_with fail
          generalize hw1 : World.alloc wr _ = w1
          obtain ⟨b1, s1, x1, x2⟩ := HF.out _ hw1
          clear hw1
          refine (HC1.out _).mono ?_
          rintro e w5 ⟨rfl, b5⟩
          have x3 := (b5.cell (p := ⟨wr.heap.size, 0, none⟩) s1).trans x1
          have x4 := (b5.cell (p := ⟨wr.heap.size, 1, none⟩) s1).trans x2
          have b15 := b1.trans (b5.mono b1.size)
          clear x1 x2
          go_wp2_with fail
          refine (HC2.out _).mono ?_
          rintro e w6 ⟨rfl, b6⟩
          have bw := b15.trans (b6.mono b15.size)
          obtain ⟨y1, y2⟩ := HCELL.out _ bw
          have BW := Lib.hid bw
          clear x3 x4 s1 b1 b5 b6 b15 bw c1 c2 c3
          go_wp2_with fail
          go_roundw
          case rel =>
            refine ⟨k + 1, by omega, by go_num, ?_, (HEND.out w6 _ BW.out (by rw [HNV.out]; rfl)).1, (HEND.out w6 _ BW.out (by rw [HNV.out]; rfl)).2⟩
            rw [HARR.out]; rfl
          case measure => simp [intOf]; omega
    · obtain rfl : k = n := by omega
      have hd : decide ((k : Int) < (k : Int)) = false := by simp
      have p1 : (0 : Int) ≤ (k : Int) := by omega
      have p3 : (k : Int) < (k : Int) + 1 := by omega
      have hrl : k < (wayA ps old c k).length := by rw [wayA_length _ _ _ _ (by rw [HN.out]; exact HL.out) (by rw [HN.out]; omega), HN.out]; omega
      have c3 := hrow.out.get k hrl
      have f3 := hrow.out.free k
      have HEND : Hid (∀ X, X = arr ps old c k → BRow (wr.setCell ⟨g, k, none⟩ (.bool X)) g (advL ps old c) ∧ w.grownBy (wr.setCell ⟨g, k, none⟩ (.bool X)) (some g)) := by
        rintro X rfl
        have h1 := hrow.out.put k (arr ps old c k)
        have hl := nvc_last ps old c
        rw [HN.out] at hl
        rw [← hl, wayA_set ps old c k (by rw [HL.out]; omega)] at h1
        have he := wayA_end ps old c (by rw [HN.out]; exact HL.out)
        rw [HN.out] at he
        rw [he] at h1
        rw [← hl]
        exact ⟨h1, grown_setP hgr.out _ _⟩
      obtain ⟨A, hA⟩ : ∃ b, arr ps old c k = b := ⟨_, rfl⟩
      rw [hA] at HEND ⊢
      obtain ⟨y, hy⟩ : ∃ y, (wayA ps old c k).getD k false = y := ⟨_, rfl⟩
      rw [hy] at c3
      clear hA hrl hy hrow hgr
      go_wp2_with fail
      go_end0
      exact ⟨rfl, HEND.out _ rfl⟩
end Go.Proofs.YtmafefdchglpbaaDoor
