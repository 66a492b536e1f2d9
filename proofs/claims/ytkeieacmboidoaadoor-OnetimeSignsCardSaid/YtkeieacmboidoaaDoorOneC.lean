/-
  One-time signatures: the walk of baseFour's iterator (conditions: the bytes lie in one block, at most 1000000 of them).
-/
import Derived.Test.YtkeieacmboidoaaDoorOneB
import Derived.RangeFuncNested
import Derived.OwnWalkIn
import Derived.TacticsInMore
import Derived.LoopNIn
import Derived.LoopIn
import Derived.BigQuiet
import Derived.Deep.QuietTactic
import Derived.RangeFuncFrom
import Derived.Shelf.Abstract
namespace Go.Proofs.YtkeieacmboidoaaDoor
open Go.RowKit Go.Shelf Go.Proofs.YtkeieacmboidoaaDoor.One
attribute [local go_sem] Oper.semAt_some

/-- what the iterator reads -/
structure BfIn (w : World) (ba bb off n cap : Nat) (l : List Int) : Prop where
  pa : w.cell? ⟨ba, 0, none⟩ = some (.slice (some ⟨bb, off, none⟩) n cap)
  len : l.length = n
  byt : ∀ x ∈ l, 0 ≤ x ∧ x < 256
  cells : ∀ j, j < n → w.cell? ⟨bb, off + j, none⟩ = some (.int .u8 (l.getD j 0))
/-- two blocks stay as they are -/
def Keep2 (ba bb : Nat) (W W' : World) : Prop := W.heap.size ≤ W'.heap.size ∧ W'.heap[ba]? = W.heap[ba]? ∧ W'.heap[bb]? = W.heap[bb]?
theorem Keep2.trans {ba bb : Nat} {X Y Z : World} (h : Keep2 ba bb X Y) (k : Keep2 ba bb Y Z) : Keep2 ba bb X Z := ⟨Nat.le_trans h.1 k.1, k.2.1.trans h.2.1, k.2.2.trans h.2.2⟩
theorem Keep2.of_below {ba bb M : Nat} {X Y : World} (h : Below M X Y) (h2 : ba < M) (h3 : bb < M) : Keep2 ba bb X Y := ⟨h.size, h.block _ h2, h.block _ h3⟩
theorem BfIn.keep {w w' : World} {ba bb off n cap : Nat} {l : List Int} (h : BfIn w ba bb off n cap l) (hk : Keep2 ba bb w w') : BfIn w' ba bb off n cap l :=
  ⟨(World.cell?_of_block (a := ⟨ba, 0, none⟩) hk.2.1).trans h.pa, h.len, h.byt, fun j hj => (World.cell?_of_block (a := ⟨bb, off + j, none⟩) hk.2.2).trans (h.cells j hj)⟩
def encN (x : Int) : Array Value := #[.int .i64 x]
theorem flat_lt {l : List Int} {i j : Nat} (hi : i < l.length) (hj : j < 4) (x : Int) : ((l.take i).flatMap digB ++ (digB x).take j).length < 4 * l.length := by
  rw [List.length_append, flat_length, List.length_take, List.length_take, digB_length]; omega
set_option maxRecDepth 100000 in
set_option maxHeartbeats 4000000 in
theorem four_in (n l ba bb off na ca : Nat) (a : List Int) (hn : 1 ≤ n) (hna : na ≤ 1000000) (J Jx : List Int → World → Prop) (W0 : World)
    (hba : ba < W0.heap.size) (hbb : bb < W0.heap.size)
    (hY : ∀ pre x W, J pre W → pre.length < 4 * a.length → YieldAt Fence.wide (n - 1) Tryd.prog l (encN x) W fun e W' => (e = .returned (.bool true) ∧ J (pre ++ [x]) W' ∧ Keep2 ba bb W W') ∨ (e = .returned (.bool false) ∧ Jx (pre ++ [x]) W'))
    (hc : BfIn W0 ba bb off na ca a) (h0 : J [] W0) :
    CallsIn Fence.wide n Tryd.prog 31 #[.func (.yield l) #[] #[], .pointer (some ⟨ba, 0, none⟩)] W0 fun e W' =>
      (∃ v, e = .returned v) ∧ ((∃ xs, xs = a.flatMap digB ∧ J xs W') ∨ (∃ pre, True ∧ Jx pre W')) := by
  have HY := Lib.hid hY
  have hpa := hc.pa
  have HC0 := Lib.hid hc
  clear hY hc
  refine callsIn_of_wp Tryd.func31 rfl trivial ?_ rfl
  simp only [Tryd.ntmps31, List.size_toArray, List.length_cons, List.length_nil, Nat.reduceAdd, Nat.reduceSub, Array.replicate_succ, Array.replicate_zero, List.push_toArray, List.append_toArray, List.nil_append, List.cons_append]
  gi_wp2_with fail
  gi_loopw [8] (fun u wr => ∃ (i : Nat), i ≤ na ∧ u = .int .i64 i ∧ Hid (J ((a.take i).flatMap digB) wr) ∧ Hid (BfIn wr ba bb off na ca a) ∧ W0.heap.size ≤ wr.heap.size) (fun u _ => na - (intOf u).toNat)
  case atStart => exact ⟨0, Nat.zero_le _, rfl, h0, HC0.out, Nat.le_refl _⟩
  case round =>
    clear h0 hpa HC0
    obtain ⟨i, hi, rfl, HJr, HC, hsz⟩ := hrel
    by_cases hia : i < na
    · have hd1 : decide ((i : Int) < (na : Int)) = true := by simp; omega
      have p1 : (0 : Int) ≤ (i : Int) := by omega
      have p2 : (i : Int) < (na : Int) := by omega
      have hcell := HC.out.cells i hia
      have HX : Hid (0 ≤ a.getD i 0 ∧ a.getD i 0 ≤ 255) := by
        have hl := HC.out.len
        have e : a.getD i 0 = a[i]'(by omega) := by rw [List.getD_eq_getElem?_getD, List.getElem?_eq_getElem (by omega)]; rfl
        have := HC.out.byt _ (List.getElem_mem (show i < a.length by omega))
        show _ ∧ _
        rw [e]; omega
      have HSN := Lib.hid (flat_snoc a i (by have := HC.out.len; omega))
      have HLT := Lib.hid (fun j (hj : j < 4) => flat_lt (l := a) (i := i) (by have := HC.out.len; omega) hj (a.getD i 0))
      generalize a.getD i 0 = x at *
      generalize (a.take i).flatMap digB = P at *
      gi_wp2_with fail
      gi_loopw [5] (fun u wr => ∃ (j : Nat), j ≤ 4 ∧ u = .int .i64 (6 - 2 * (j : Int)) ∧ Hid (J (P ++ (digB x).take j) wr) ∧ Hid (BfIn wr ba bb off na ca a) ∧ W0.heap.size ≤ wr.heap.size) (fun u _ => (intOf u + 2).toNat)
      case atStart => exact ⟨0, Nat.zero_le _, rfl, by simpa using HJr, HC, hsz⟩
      case round =>
        clear HJr HC hcell hsz
        obtain ⟨j, hj, rfl, HJ2, HC2, hsz2⟩ := hrel
        by_cases hj4 : j < 4
        · have HSN2 := Lib.hid (digB_snoc x j hj4)
          have HDR := Lib.hid (dgt_range x j hj4)
          have HLJ := Lib.hid (HLT.out j hj4)
          have d1 := HDR.out.1
          have d2 := HDR.out.2
          have x1 := HX.out.1
          have x2 := HX.out.2
          obtain ⟨fn, tmps, assign, body, hy, hR⟩ := HY.out (P ++ (digB x).take j) (dgt x j) wr HJ2.out HLJ.out
          simp only [encN] at hy
          have hd2 : decide (6 - 2 * (j : Int) ≥ 0) = true := by simp; omega
          have HJN := Lib.hid (show P ++ (digB x).take j ++ [dgt x j] = P ++ (digB x).take (j + 1) by rw [HSN2.out, List.append_assoc])
          rcases (by omega : j = 0 ∨ j = 1 ∨ j = 2 ∨ j = 3) with rfl | rfl | rfl | rfl
          · have hb : bits .and .u8 (x / 64) 3 = dgt x 0 := (and3_u8 _ (by omega)).trans rfl
            gi_wp2_with fail
            refine hR.mono ?_
            clear hR hy
            rintro e W6 (⟨rfl, hJ6, hk6⟩ | ⟨rfl, hJx6⟩)
            · have HJ6 := Lib.hid hJ6
              have HC6 := Lib.hid (HC2.out.keep hk6)
              have hz6 := hk6.1
              rw [HJN.out] at HJ6
              clear hJ6 hk6
              gi_wp2
              go_roundw
              case rel => exact ⟨1, by omega, by go_num, HJ6, HC6, by omega⟩
              case measure => simp [intOf]
            · have HJx6 := Lib.hid hJx6
              clear hJx6
              gi_wp2
              refine bodyPost_ret (results_none rfl _ _ _) rfl ?_
              exact ⟨⟨_, rfl⟩, .inr ⟨_, trivial, HJx6.out⟩⟩
          · have hb : bits .and .u8 (x / 16) 3 = dgt x 1 := (and3_u8 _ (by omega)).trans rfl
            gi_wp2_with fail
            refine hR.mono ?_
            clear hR hy
            rintro e W6 (⟨rfl, hJ6, hk6⟩ | ⟨rfl, hJx6⟩)
            · have HJ6 := Lib.hid hJ6
              have HC6 := Lib.hid (HC2.out.keep hk6)
              have hz6 := hk6.1
              rw [HJN.out] at HJ6
              clear hJ6 hk6
              gi_wp2
              go_roundw
              case rel => exact ⟨2, by omega, by go_num, HJ6, HC6, by omega⟩
              case measure => simp [intOf]
            · have HJx6 := Lib.hid hJx6
              clear hJx6
              gi_wp2
              refine bodyPost_ret (results_none rfl _ _ _) rfl ?_
              exact ⟨⟨_, rfl⟩, .inr ⟨_, trivial, HJx6.out⟩⟩
          · have hb : bits .and .u8 (x / 4) 3 = dgt x 2 := (and3_u8 _ (by omega)).trans rfl
            gi_wp2_with fail
            refine hR.mono ?_
            clear hR hy
            rintro e W6 (⟨rfl, hJ6, hk6⟩ | ⟨rfl, hJx6⟩)
            · have HJ6 := Lib.hid hJ6
              have HC6 := Lib.hid (HC2.out.keep hk6)
              have hz6 := hk6.1
              rw [HJN.out] at HJ6
              clear hJ6 hk6
              gi_wp2
              go_roundw
              case rel => exact ⟨3, by omega, by go_num, HJ6, HC6, by omega⟩
              case measure => simp [intOf]
            · have HJx6 := Lib.hid hJx6
              clear hJx6
              gi_wp2
              refine bodyPost_ret (results_none rfl _ _ _) rfl ?_
              exact ⟨⟨_, rfl⟩, .inr ⟨_, trivial, HJx6.out⟩⟩
          · have hb : bits .and .u8 (x) 3 = dgt x 3 := (and3_u8 _ (by omega)).trans rfl
            gi_wp2_with fail
            refine hR.mono ?_
            clear hR hy
            rintro e W6 (⟨rfl, hJ6, hk6⟩ | ⟨rfl, hJx6⟩)
            · have HJ6 := Lib.hid hJ6
              have HC6 := Lib.hid (HC2.out.keep hk6)
              have hz6 := hk6.1
              rw [HJN.out] at HJ6
              clear hJ6 hk6
              gi_wp2
              go_roundw
              case rel => exact ⟨4, by omega, by go_num, HJ6, HC6, by omega⟩
              case measure => simp [intOf]
            · have HJx6 := Lib.hid hJx6
              clear hJx6
              gi_wp2
              refine bodyPost_ret (results_none rfl _ _ _) rfl ?_
              exact ⟨⟨_, rfl⟩, .inr ⟨_, trivial, HJx6.out⟩⟩
        · obtain rfl : j = 4 := by omega
          have hd2 : decide (6 - 2 * ((4 : Nat) : Int) ≥ 0) = false := by simp
          have HF := Lib.hid (show (digB x).take 4 = digB x from rfl)
          gi_wp2
          go_roundw
          case rel => exact ⟨i + 1, by omega, by go_num, by rw [HSN.out, ← HF.out]; exact HJ2, HC2, hsz2⟩
          case measure => simp [intOf]; omega
    · obtain rfl : i = na := by omega
      have hd1 : decide ((i : Int) < (i : Int)) = false := by simp
      have HE : Hid (a.take i = a) := by
        show _ = _
        exact List.take_of_length_le (by have := HC.out.len; omega)
      rw [HE.out] at HJr
      gi_wp2_with fail
      go_end0
      exact ⟨⟨_, rfl⟩, .inl ⟨_, rfl, HJr.out⟩⟩
theorem four_stops (n : Nat) (hn : 1 ≤ n) (ba bb off na ca : Nat) (a : List Int) (hna : na ≤ 1000000) (w : World)
    (hba : ba < w.heap.size) (hbb : bb < w.heap.size) (hc : BfIn w ba bb off na ca a) :
    SeqStopsK Fence.wide n Tryd.prog 31 #[.pointer (some ⟨ba, 0, none⟩)] encN (Keep2 ba bb) (fun xs => xs = a.flatMap digB) (fun _ => True) (4 * a.length) w := by
  intro l J Jx W hW hJ hJx hY h0
  have hz := hW.size
  exact four_in n l ba bb off na ca a hn hna J Jx W (by omega) (by omega) hY (hc.keep (Keep2.of_below hW hba hbb)) h0
end Go.Proofs.YtkeieacmboidoaaDoor
