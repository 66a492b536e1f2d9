/-
  The walk of the iterator of strings.SplitSeq at a separator of one byte: it calls yield with the components, in order, until yield says no more (condition: the invariants that it is handed abide a store into the iterator's own cell).
-/
import Derived.Test.YtkookkhlgllneaaDoorPatA
import Derived.RangeFuncNested
import Derived.RangeFuncBound
import Derived.RangeFuncCalls
import Derived.RangeFuncLeaves
import Derived.OwnWalkIn
import Derived.TacticsInMore
import Derived.LoopNIn
import Derived.LoopIn
import Derived.IntWalk
namespace Go.Proofs.YtkookkhlgllneaaDoor
open Go.RowKit

/-- how many bytes the string in a cell has -/
def restN (c : Nat) (wr : World) : Nat := match wr.cell? ⟨c, 0, none⟩ with
  | some (.string r) => r.size
  | _ => 0
/-- what the iterator's three cells hold -/
structure SpIn (W : World) (cs ce cv : Nat) (r : ByteArray) : Prop where
  s : W.cell? ⟨cs, 0, none⟩ = some (.string r)
  f : W.frozen? ⟨cs, 0, none⟩ = false
  e : W.cell? ⟨ce, 0, none⟩ = some (.string slB)
  v : W.cell? ⟨cv, 0, none⟩ = some (.int .i64 0)
/-- the iterator's three blocks lie as they lay -/
def Same3 (cs ce cv : Nat) (W W' : World) : Prop := W'.heap[cs]? = W.heap[cs]? ∧ W'.heap[ce]? = W.heap[ce]? ∧ W'.heap[cv]? = W.heap[cv]?
theorem SpIn.same {W W' : World} {cs ce cv : Nat} {r : ByteArray} (h : SpIn W cs ce cv r) (hb : Same3 cs ce cv W W') : SpIn W' cs ce cv r :=
  ⟨(World.cell?_of_block (a := ⟨cs, 0, none⟩) hb.1).trans h.s, (World.frozen?_of_block (a := ⟨cs, 0, none⟩) hb.1).trans h.f, (World.cell?_of_block (a := ⟨ce, 0, none⟩) hb.2.1).trans h.e, (World.cell?_of_block (a := ⟨cv, 0, none⟩) hb.2.2).trans h.v⟩
theorem SpIn.put {W : World} {cs ce cv : Nat} {r : ByteArray} (h : SpIn W cs ce cv r) (x : ByteArray) (h1 : cs ≠ ce) (h2 : cs ≠ cv) : SpIn (W.setCell ⟨cs, 0, none⟩ (.string x)) cs ce cv x :=
  ⟨World.cell?_setCell_same' _ _ _ (by rw [h.s]; rfl), by rw [World.frozen?_setCell]; exact h.f, by rw [World.cell?_setCell_other _ _ _ _ (by intro e; injection e with e1; exact h1 e1)]; exact h.e, by rw [World.cell?_setCell_other _ _ _ _ (by intro e; injection e with e1; exact h2 e1)]; exact h.v⟩

set_option maxRecDepth 100000 in
set_option maxHeartbeats 400000 in
theorem split1_in (n l cs ce cv : Nat) (s : ByteArray) (J Jx : List ByteArray → World → Prop) (hss : s.size ≤ 1000000) (hne1 : cs ≠ ce) (hne2 : cs ≠ cv)
    (hJ : ∀ pre W v, J pre W → J pre (W.setCell ⟨cs, 0, none⟩ v))
    (hY : ∀ pre x W, J pre W → YieldAt Fence.wide (n - 1) Tryd.prog l #[.string x] W fun e W' => (e = .returned (.bool true) ∧ J (pre ++ [x]) W' ∧ Same3 cs ce cv W W') ∨ (e = .returned (.bool false) ∧ Jx (pre ++ [x]) W'))
    (W : World) (hc : SpIn W cs ce cv s) (h0 : J [] W) :
    CallsIn Fence.wide n Tryd.prog 171 #[.func (.yield l) #[] #[], .pointer (some ⟨ce, 0, none⟩), .pointer (some ⟨cs, 0, none⟩), .pointer (some ⟨cv, 0, none⟩)] W fun e W' =>
      (∃ v, e = .returned v) ∧ (J (seg s) W' ∨ ∃ pre, pre <+: seg s ∧ Jx pre W') := by
  refine callsIn_of_wp Tryd.func171 rfl trivial ?_ rfl
  simp only [Tryd.ntmps171, List.size_toArray, List.length_cons, List.length_nil, Nat.reduceAdd, Nat.reduceSub, Array.replicate_succ, Array.replicate_zero, List.push_toArray, List.append_toArray, List.nil_append, List.cons_append]
  have he := hc.e
  have hsz : slB.size = 1 := rfl
  gi_wp2
  gi_loopw [7] (fun _ wr => ∃ (pre : List ByteArray) (r : ByteArray), r.size ≤ 1000000 ∧ SpIn wr cs ce cv r ∧ Hid (seg s = pre ++ seg r) ∧ J pre wr) (fun _ wr => restN cs wr)
  case atStart => exact ⟨[], s, hss, hc, rfl, h0⟩
  case round =>
    obtain ⟨pre, r, hrs, hcr, hsg, hj⟩ := hrel
    have he := hcr.e
    have hsr := hcr.s
    have hvr := hcr.v
    have hfr := hcr.f
    rcases Lib.indexB_cases r slB with hix | ⟨i, hix, hroom⟩
    · have hlast := seg_miss r hix
      have HI := Lib.hid hix
      obtain ⟨fn, tmps, assign, body, hy, hR⟩ := hY pre r wr hj
      have hlt : decide ((-1 : Int) < 0) = true := by decide
      clear hix
      gi_wp2_with fail
      refine ⟨trivial, (fun h => by cases h), ?_⟩
      refine (callsIn_wide.2 (index_anyP r _)).mono ?_
      rintro e w' ⟨rfl, rfl⟩
      rw [HI.out]
      gi_wp2
      refine ⟨(fun h => by cases h), hR.mono ?_⟩
      rintro e W3 (⟨rfl, hJ3, hk3⟩ | ⟨rfl, hJx3⟩)
      · gi_wp2
        go_end0
        exact ⟨⟨_, rfl⟩, .inl (by rw [hsg.out, hlast]; exact hJ3)⟩
      · gi_wp2
        go_end0
        exact ⟨⟨_, rfl⟩, .inr ⟨pre ++ [r], by rw [hsg.out, hlast]; exact List.prefix_refl _, hJx3⟩⟩
    · have HS : Hid (seg r = r.extract 0 i :: seg (r.extract (i + 1) r.size)) := seg_hit r i hix
      have HI := Lib.hid hix
      obtain ⟨fn, tmps, assign, body, hy, hR⟩ := hY pre (r.extract 0 i) wr hj
      have hr1 : i + 1 ≤ r.size := hroom
      have c0 : decide ((i : Int) < 0) = false := by simp
      have c1 : (0 : Int) ≤ (i : Int) := by omega
      have c2 : (i : Int) ≤ (r.size : Int) := by omega
      have c3 : (0 : Int) ≤ (i : Int) + 1 := by omega
      have c4 : (i : Int) + 1 ≤ (r.size : Int) := by omega
      have c5 : ((i : Int) + 1).toNat = i + 1 := by omega
      clear hix hroom
      gi_wp2_with fail
      refine ⟨trivial, (fun h => by cases h), ?_⟩
      refine (callsIn_wide.2 (index_anyP r _)).mono ?_
      rintro e w' ⟨rfl, rfl⟩
      rw [HI.out]
      gi_wp2
      refine ⟨(fun h => by cases h), hR.mono ?_⟩
      rintro e W3 (⟨rfl, hJ3, hk3⟩ | ⟨rfl, hJx3⟩)
      · have hc3 := hcr.same hk3
        have HC3 := Lib.hid (hc3.put (r.extract (i + 1) r.size) hne1 hne2)
        have HJ3 := Lib.hid (hJ _ _ (.string (r.extract (i + 1) r.size)) hJ3)
        have HM : Hid (restN cs (W3.setCell ⟨cs, 0, none⟩ (.string (r.extract (i + 1) r.size))) < restN cs wr) := by
          show _ < _
          unfold restN
          rw [(hc3.put (r.extract (i + 1) r.size) hne1 hne2).s, hsr]
          show (r.extract (i + 1) r.size).size < r.size
          rw [ByteArray.size_extract]; omega
        have he3 := hc3.e
        have hs3 := hc3.s
        have hf3 := hc3.f
        have hrl : (r.extract (i + 1) r.size).size ≤ 1000000 := by rw [ByteArray.size_extract]; omega
        clear hj hJ3 hc3
        gi_wp2
        go_roundw
        case rel => exact ⟨pre ++ [r.extract 0 i], _, hrl, HC3.out, by show _ = _; rw [hsg.out, HS.out, List.append_assoc]; rfl, HJ3.out⟩
        case measure => exact HM.out
      · gi_wp2
        refine bodyPost_ret (results_none rfl _ _ _) rfl ?_
        exact ⟨⟨_, rfl⟩, .inr ⟨pre ++ [r.extract 0 i], ⟨seg (r.extract (i + 1) r.size), by rw [hsg.out, HS.out, List.append_assoc]; rfl⟩, hJx3⟩⟩
end Go.Proofs.YtkookkhlgllneaaDoor
