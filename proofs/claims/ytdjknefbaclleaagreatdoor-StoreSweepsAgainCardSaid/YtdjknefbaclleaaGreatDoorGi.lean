/-
  The walk of slices.Grow at the nil slice, at blobs and at strings (condition: at most 1000000 elements are asked for).
-/
import Derived.Test.YtdjknefbaclleaaGreatDoorGg
import Derived.Lib.SliceRun
import Derived.Lib.AppendZerosOnto
import Derived.Lib.Walk
import Derived.Test.YtdjknefbaclleaaGreatDoorGd
import Derived.IntWalk
namespace Go.Proofs.YtdjknefbaclleaaGreatDoor
open Go.RowKit

theorem infoS3 : (Tryz.prog.info? 9).map (fun i => (i.zero, i.size, i.bytes)) = some (some (.string ByteArray.empty), 1, 16) := by kernel_rfl
theorem zeroCells_size (z : Array Value) (n : Nat) : (Builtin.zeroCells z n).size = n * z.size := by simp [Builtin.zeroCells]
set_option maxRecDepth 100000 in
set_option maxHeartbeats 1000000 in
theorem growB_any (n : Nat) (h0 : 0 < n) (hn : n ≤ 1000000000000) (w : World) :
    Calls Tryz.prog 99 #[.slice none 0 0, .int .i64 n] w fun e w' => ∃ c, n ≤ c ∧ e = .returned (.slice (some ⟨w.heap.size, 0, none⟩) 0 c) ∧ w'.ownsRow w.heap.size 50 33 (.slice (some ⟨w.heap.size, 0, none⟩) 0 c) 0 [] ∧ Below w.heap.size w w' := by
  obtain ⟨i0, hi0, hz0, hz1, hz2⟩ := info_parts infoB3
  have hrz : ∀ ty, (Builtin.append_ #[24, 3] ty #[.slice none 0 0, .int .i64 (n : Int)]).run Tryz.prog w = .ok (.slice (some ⟨w.heap.size, 0, none⟩) n (grownCap w n 0 50))
      (w.drew.alloc (.cells (([] : List Value).toArray ++ Builtin.zeroCells ((.agg zB.toArray) : Value).cells n ++ Builtin.zeroCells ((.agg zB.toArray) : Value).cells (grownCap w n 0 50 - n)) 50)) := fun ty => by
    have h := Lib.run_append_grow_zeros w 24 3 ty 50 i0 (.agg zB.toArray) .i64 .i64 Tryz.underlying24 Tryz.underlying3 hi0 hz0 none 0 0 [] (run_firstCells_none w.drew i0.size 0 0 0) n h0 (by omega) (by omega) (by omega) (by rw [hz2]; omega)
      (by unfold Builtin.nextslicecap; rw [if_pos (by omega), hz2]; omega)
    rw [Nat.zero_add] at h
    exact h
  have hGn : n ≤ grownCap w n 0 50 := grownCap_ge w _ _ _
  obtain ⟨G, hG⟩ : ∃ G, G = grownCap w n 0 50 := ⟨_, rfl⟩
  have hGm : grownCap w n 0 50 ≤ maxLen := grownCap_le_maxLen w n 0 50 (by unfold maxLen; omega)
  rw [← hG] at hrz hGn hGm
  have hsz : (([] : List Value).toArray ++ Builtin.zeroCells ((.agg zB.toArray) : Value).cells n ++ Builtin.zeroCells ((.agg zB.toArray) : Value).cells (G - n)).size = G * 33 := by
    have e1 : ((.agg zB.toArray) : Value).cells.size = 33 := by rfl
    rw [Array.size_append, Array.size_append, zeroCells_size, zeroCells_size, e1]
    show 0 + n * 33 + (G - n) * 33 = G * 33
    omega
  have HOWN := Lib.hid (World.ownsRow_made (e := 50) (size := 33) w.drew _ G (Nat.le_refl _) hGm hsz)
  have hbel : Below w.heap.size w (w.drew.alloc (.cells (([] : List Value).toArray ++ Builtin.zeroCells ((.agg zB.toArray) : Value).cells n ++ Builtin.zeroCells ((.agg zB.toArray) : Value).cells (G - n)) 50)) := (Below.refl w.heap.size w).drew.alloc (Nat.le_refl _) _
  have HB := Lib.hid hbel
  have hG63 : (G : Int) ≤ 9223372036854775807 := by unfold maxLen at hGm; omega
  have p1 : (0 : Int) ≤ (G : Int) := by omega
  have p2 : (0 : Int) ≤ (n : Int) := by omega
  have p3 : (n : Int) ≤ (G : Int) := by omega
  have hd1 : decide ((n : Int) < 0) = false := by simp
  have hd2 : decide ((n : Int) > 0) = true := by simp; omega
  have w1 : IntKind.i64.wrap (n : Int) = (n : Int) := IntWalk.i64_in _ (by omega)
  have w2 : wrap64 (n : Int) = (n : Int) := by unfold wrap64; omega
  clear hbel hsz hG
  generalize hW : World.alloc w.drew _ = W at hrz HOWN HB
  clear hW
  have HG := Lib.hid hGn
  go_enter Tryz.func99, Tryz.ntmps99
  go_wp2_with (at_builtin; refine Lib.wpList_append_run _ rfl _ _ _ _ rfl _ _ rfl rfl _ _ (hrz _) ?_)
  all_goals (go_ret; exact ⟨G, HG.out, rfl, HOWN.out, HB.out⟩)
set_option maxRecDepth 100000 in
set_option maxHeartbeats 1000000 in
theorem growB_zero (w : World) : Calls Tryz.prog 99 #[.slice none 0 0, .int .i64 0] w fun e w' => e = .returned (.slice none 0 0) ∧ w = w' := by
  go_enter Tryz.func99, Tryz.ntmps99
  go_wp2_with fail
  go_ret
  exact ⟨rfl, rfl⟩
set_option maxRecDepth 100000 in
set_option maxHeartbeats 1000000 in
theorem growS_any (n : Nat) (h0 : 0 < n) (hn : n ≤ 1000000000000) (w : World) :
    Calls Tryz.prog 60 #[.slice none 0 0, .int .i64 n] w fun e w' => ∃ c, n ≤ c ∧ e = .returned (.slice (some ⟨w.heap.size, 0, none⟩) 0 c) ∧ w'.ownsRow w.heap.size 9 1 (.slice (some ⟨w.heap.size, 0, none⟩) 0 c) 0 [] ∧ Below w.heap.size w w' := by
  obtain ⟨i0, hi0, hz0, hz1, hz2⟩ := info_parts infoS3
  have hrz : ∀ ty, (Builtin.append_ #[40, 3] ty #[.slice none 0 0, .int .i64 (n : Int)]).run Tryz.prog w = .ok (.slice (some ⟨w.heap.size, 0, none⟩) n (grownCap w n 0 9))
      (w.drew.alloc (.cells (([] : List Value).toArray ++ Builtin.zeroCells ((.string ByteArray.empty) : Value).cells n ++ Builtin.zeroCells ((.string ByteArray.empty) : Value).cells (grownCap w n 0 9 - n)) 9)) := fun ty => by
    have h := Lib.run_append_grow_zeros w 40 3 ty 9 i0 (.string ByteArray.empty) .i64 .i64 Tryz.underlying40 Tryz.underlying3 hi0 hz0 none 0 0 [] (run_firstCells_none w.drew i0.size 0 0 0) n h0 (by omega) (by omega) (by omega) (by rw [hz2]; omega)
      (by unfold Builtin.nextslicecap; rw [if_pos (by omega), hz2]; omega)
    rw [Nat.zero_add] at h
    exact h
  have hGn : n ≤ grownCap w n 0 9 := grownCap_ge w _ _ _
  obtain ⟨G, hG⟩ : ∃ G, G = grownCap w n 0 9 := ⟨_, rfl⟩
  have hGm : grownCap w n 0 9 ≤ maxLen := grownCap_le_maxLen w n 0 9 (by unfold maxLen; omega)
  rw [← hG] at hrz hGn hGm
  have hsz : (([] : List Value).toArray ++ Builtin.zeroCells ((.string ByteArray.empty) : Value).cells n ++ Builtin.zeroCells ((.string ByteArray.empty) : Value).cells (G - n)).size = G * 1 := by
    have e1 : ((.string ByteArray.empty) : Value).cells.size = 1 := by rfl
    rw [Array.size_append, Array.size_append, zeroCells_size, zeroCells_size, e1]
    show 0 + n * 1 + (G - n) * 1 = G * 1
    omega
  have HOWN := Lib.hid (World.ownsRow_made (e := 9) (size := 1) w.drew _ G (Nat.le_refl _) hGm hsz)
  have hbel : Below w.heap.size w (w.drew.alloc (.cells (([] : List Value).toArray ++ Builtin.zeroCells ((.string ByteArray.empty) : Value).cells n ++ Builtin.zeroCells ((.string ByteArray.empty) : Value).cells (G - n)) 9)) := (Below.refl w.heap.size w).drew.alloc (Nat.le_refl _) _
  have HB := Lib.hid hbel
  have hG63 : (G : Int) ≤ 9223372036854775807 := by unfold maxLen at hGm; omega
  have p1 : (0 : Int) ≤ (G : Int) := by omega
  have p2 : (0 : Int) ≤ (n : Int) := by omega
  have p3 : (n : Int) ≤ (G : Int) := by omega
  have hd1 : decide ((n : Int) < 0) = false := by simp
  have hd2 : decide ((n : Int) > 0) = true := by simp; omega
  have w1 : IntKind.i64.wrap (n : Int) = (n : Int) := IntWalk.i64_in _ (by omega)
  have w2 : wrap64 (n : Int) = (n : Int) := by unfold wrap64; omega
  clear hbel hsz hG
  generalize hW : World.alloc w.drew _ = W at hrz HOWN HB
  clear hW
  have HG := Lib.hid hGn
  go_enter Tryz.func60, Tryz.ntmps60
  go_wp2_with (at_builtin; refine Lib.wpList_append_run _ rfl _ _ _ _ rfl _ _ rfl rfl _ _ (hrz _) ?_)
  all_goals (go_ret; exact ⟨G, HG.out, rfl, HOWN.out, HB.out⟩)
set_option maxRecDepth 100000 in
set_option maxHeartbeats 1000000 in
theorem growS_zero (w : World) : Calls Tryz.prog 60 #[.slice none 0 0, .int .i64 0] w fun e w' => e = .returned (.slice none 0 0) ∧ w = w' := by
  go_enter Tryz.func60, Tryz.ntmps60
  go_wp2_with fail
  go_ret
  exact ⟨rfl, rfl⟩
end Go.Proofs.YtdjknefbaclleaaGreatDoor

namespace Go.Proofs.YtdjknefbaclleaaGreatDoor
open Go.RowKit

set_option maxRecDepth 100000 in
/-- append(own, list...) -/
theorem wpList_append_strs {w : World} {ops : Array Oper} {rest : List Oper} {o : Oper} {a : Act} {Q : Exit → Act → World → Prop} (hgd : o.guard = none) (s x : Operand)
    (ho : o.op = .call { callee := .builtin .append, args := #[s, x], argTypes := #[40, 40] }) (base : Nat) (v : Value) (l : List ByteArray) (n : Nat) (hn : n = l.length) (hs : a.eval s = v) (hown : w.ownsRow base 9 1 v l.length (l.map Value.string))
    (sp2 : Option Addr) (m cap2 B : Nat) (l2 : List ByteArray) (hx : a.eval x = .slice sp2 m cap2) (hsrc : StrsIn w B sp2 m l2) (hnil : sp2 = none → cap2 = 0) (hlen : n + m ≤ 1000000) (hbase : base ≤ w.heap.size)
    (h : ∀ sp cap w', Hid (w'.ownsRow base 9 1 (.slice sp (n + m) cap) (l ++ l2).length ((l ++ l2).map Value.string)) → Hid (Below base w w') → Hid (w.grownBy w' v.ownBlock) → wpList Tryz.prog ops Q rest (a.put o.dst (.slice sp (n + m) cap)) w') : wpList Tryz.prog ops Q (o :: rest) a w := by
  subst hn
  obtain ⟨i0, hi0, hz0, hz1, hz2⟩ := info_parts infoS3
  have hl2 := hsrc.len
  cases sp2 with
  | none =>
    have hm : m = 0 := by
      by_cases h0 : 0 < m
      · obtain ⟨_, _, e, _⟩ := hsrc.cells h0; cases e
      · omega
    subst hm
    have e2 : l2 = [] := List.eq_nil_of_length_eq_zero hl2
    subst e2
    rw [hnil rfl] at hx
    obtain ⟨sp, cap, rfl⟩ := own_shapeG hown
    refine wpList_append_own_none hgd s x _ ho base _ i0 1 Tryz.underlying40 hi0 _ l.length _ hs hown hx ?_
    exact h sp cap w (by show World.ownsRow _ _ _ _ _ _ _; simpa using hown) (Below.refl _ _) (World.grownBy.refl _ _)
  | some ad =>
    refine wpList_append_own w hgd s x _ ho base _ i0 _ 1 16 Tryz.underlying40 hi0 hz0 hz1 hz2 rfl (by decide) v l.length _ hs hown ad m cap2 (l2.map Value.string) hx (by rw [List.length_map, hl2]; omega) ?_ (fun u hu => by obtain ⟨i, _, rfl⟩ := List.mem_map.1 hu; rfl) (by unfold maxLen; omega) (by omega) hbase ?_
    · intro j u hj
      have hjl : j < l2.length := by have := (List.getElem?_eq_some_iff.1 hj).1; simpa using this
      obtain ⟨b, off, e, _, hr⟩ := hsrc.cells (by omega)
      injection e with e; subst e
      rw [Addr.add_mid, hr j hjl]
      rw [List.getElem?_map, List.getElem?_eq_getElem hjl] at hj
      exact hj
    · intro v' w' h1 h2 _
      obtain ⟨sp, cap, rfl⟩ := own_shapeG h1
      refine h sp cap w' ?_ ((Below.refl base w).grown h2 hbase (own_baseG hown)) h2
      show World.ownsRow _ _ _ _ _ _ _
      rw [List.length_append, hl2, List.map_append]; exact h1
theorem neg_falseG (a b : Nat) : decide ((a : Int) + (b : Int) < 0) = false := decide_eq_false (by omega)
theorem wrap64_inG (x : Int) (h : -9223372036854775808 ≤ x ∧ x ≤ 9223372036854775807) : wrap64 x = x := by unfold wrap64; omega
/-- a list of blobs as a slice's value -/
structure Lb where
  sp : Option Addr
  n : Nat
  cap : Nat
  l : List Bl
def Lb.val (q : Lb) : Value := .slice q.sp q.n q.cap
structure LbsIn (w : World) (B : Nat) (pa : Option Addr) (np : Nat) (ls : List Lb) : Prop where
  len : ls.length = np
  cells : 0 < np → ∃ pb po, pa = some ⟨pb, po, none⟩ ∧ pb < B ∧ ∀ j (hj : j < ls.length), w.cell? ⟨pb, po + j, none⟩ = some ls[j].val
  each : ∀ q ∈ ls, BlsIn w B q.sp q.n q.cap q.l
theorem LbsIn.below {w w' : World} {B B' : Nat} {pa : Option Addr} {np : Nat} {ls : List Lb} (h : LbsIn w B pa np ls) (hb : Below B' w w') (hB : B ≤ B') : LbsIn w' B pa np ls :=
  ⟨h.len, fun hn => by
    obtain ⟨pb, po, e, hlt, hc⟩ := h.cells hn
    exact ⟨pb, po, e, hlt, fun j hj => (hb.cell (p := ⟨pb, po + j, none⟩) (by show pb < B'; omega)).trans (hc j hj)⟩, fun q hq => by
    have h1 := h.each q hq
    exact ⟨h1.len, h1.ok, fun x hx => ⟨(h1.dat x hx).src.below hb hB, (h1.dat x hx).nil⟩, fun hn => by
      obtain ⟨b, off, e, hlt, hc, hr⟩ := h1.cells hn
      exact ⟨b, off, e, hlt, hc, fun i x hi => range_belowG (hr i x hi) hb (by omega)⟩⟩⟩
/-- how many elements stand in the first lists -/
def totG {α : Type} (ls : List (List α)) (k : Nat) : Nat := ((ls.take k).map List.length).sum
theorem totG_succ {α : Type} {ls : List (List α)} {k : Nat} {l : List α} (h : ls[k]? = some l) : totG ls (k + 1) = totG ls k + l.length := by
  unfold totG; rw [List.take_add_one, h]; simp
theorem totG_all {α : Type} (ls : List (List α)) : totG ls ls.length = ls.flatten.length := by
  unfold totG; rw [List.take_length, List.length_flatten]
theorem totG_le {α : Type} (ls : List (List α)) (k : Nat) : totG ls k ≤ ls.flatten.length := by
  have h : (ls.take k).flatten.length ≤ ls.flatten.length := by
    conv => rhs; rw [← List.take_append_drop k ls, List.flatten_append, List.length_append]
    omega
  unfold totG; rw [← List.length_flatten]; exact h
theorem flat_takeG {α : Type} {ls : List (List α)} {k : Nat} {l : List α} (h : ls[k]? = some l) : (ls.take (k + 1)).flatten = (ls.take k).flatten ++ l := by
  rw [List.take_add_one, h]; simp
theorem flat_lenT {α : Type} (ls : List (List α)) (k : Nat) : (ls.take k).flatten.length = totG ls k := by unfold totG; rw [List.length_flatten]
end Go.Proofs.YtdjknefbaclleaaGreatDoor

namespace Go.Proofs.YtdjknefbaclleaaGreatDoor
open Go.RowKit

set_option maxRecDepth 100000 in
set_option maxHeartbeats 1000000 in
theorem concatB_any (pa : Option Addr) (np ncap : Nat) (ls : List Lb) (w : World) (hp : LbsIn w w.heap.size pa np ls) (hnil : ∀ q ∈ ls, q.sp = none → q.cap = 0) (htot : ((ls.map (·.l)).flatten).length ≤ 1000000) (hnp : np ≤ 9223372036854775806) :
    Calls Tryz.prog 74 #[.slice pa np ncap] w fun e w' => ∃ sp n cap, e = .returned (.slice sp n cap) ∧ n = ((ls.map (·.l)).flatten).length ∧ OwnB w' w.heap.size (.slice sp n cap) ((ls.map (·.l)).flatten) ∧ Below w.heap.size w w' := by
  have HP := Lib.hid hp; have HNIL := Lib.hid hnil
  clear hp hnil
  obtain ⟨LL, hLL⟩ : ∃ LL, LL = ls.map (·.l) := ⟨_, rfl⟩
  rw [← hLL] at htot ⊢
  have HLL := Lib.hid hLL; clear hLL
  have hLn : LL.length = np := by rw [HLL.out, List.length_map, HP.out.len]
  go_enter Tryz.func74, Tryz.ntmps74
  go_wp2_with fail
  go_loopw [3, 11] (fun v i wr => ∃ k : Nat, k ≤ np ∧ i = .int .i64 k ∧ v = .int .i64 (totG LL k) ∧ Hid (Below w.heap.size w wr)) (fun _ i _ => np - (intOf i).toNat)
  case atStart => exact ⟨0, Nat.zero_le _, rfl, rfl, Below.refl _ _⟩
  case round =>
    obtain ⟨k, hk, rfl, rfl, hbe⟩ := hrel
    have hT := totG_le LL k
    by_cases hlt : k < np
    · have hd : decide ((k : Int) < (np : Int)) = true := by simp; omega
      obtain ⟨pb, po, rfl, hpb, hc⟩ := HP.out.cells (by omega)
      have hkl : k < ls.length := by rw [HP.out.len]; exact hlt
      obtain ⟨q, hq⟩ : ∃ q, ls[k]? = some q := ⟨ls[k], List.getElem?_eq_getElem hkl⟩
      have hqe : ls[k] = q := by rw [List.getElem?_eq_getElem hkl] at hq; exact Option.some.inj hq
      have hc1 := (hbe.out.cell (p := ⟨pb, po + k, none⟩) hpb).trans (hc k hkl)
      rw [hqe] at hc1
      have hc2 : wr.cell? ⟨pb, po + k, none⟩ = some (.slice q.sp q.n q.cap) := hc1
      have hqn : q.n = q.l.length := ((HP.out.each q (List.mem_of_getElem? hq)).len).symm
      have hLk : LL[k]? = some q.l := by rw [HLL.out, List.getElem?_map, hq]; rfl
      have hT1 := totG_succ hLk
      have hT2 := totG_le LL (k + 1)
      have p1 : (0 : Int) ≤ (k : Int) := by omega
      have p2 : (k : Int) < (np : Int) := by omega
      have hd2 : decide ((totG LL k : Int) + (q.n : Int) < 0) = false := neg_falseG _ _
      have hbd : -9223372036854775808 ≤ (totG LL k : Int) + (q.n : Int) ∧ (totG LL k : Int) + (q.n : Int) ≤ 9223372036854775807 := by omega
      have w1 : IntKind.i64.wrap ((totG LL k : Int) + (q.n : Int)) = (totG LL k : Int) + (q.n : Int) := IntWalk.i64_in _ hbd
      have w2 : wrap64 ((totG LL k : Int) + (q.n : Int)) = (totG LL k : Int) + (q.n : Int) := wrap64_inG _ hbd
      have HT1 : Hid (totG LL (k + 1) = totG LL k + q.n) := by show _ = _; rw [hT1, hqn]
      clear hc hc1 hkl hqe hT hT1 hT2 hLk hq hqn hbd
      go_wp2_with fail
      go_roundw
      case rel => exact ⟨k + 1, hlt, by go_num, by rw [HT1.out]; first | rfl | go_num | simp, hbe⟩
      case measure => simp [intOf]; omega
    · obtain rfl : k = np := by omega
      have hd : decide ((k : Int) < (k : Int)) = false := by simp
      have hTk : totG LL k = LL.flatten.length := by rw [← totG_all LL, hLn]
      rw [hTk]
      obtain ⟨N, hN⟩ : ∃ N, N = LL.flatten.length := ⟨_, rfl⟩
      rw [← hN] at htot ⊢
      have HN := Lib.hid hN; clear hN hTk hT
      have hgrow : Calls Tryz.prog 99 #[.slice none 0 0, .int .i64 N] wr fun e w' => ∃ sp cap, e = .returned (.slice sp 0 cap) ∧ w'.ownsRow wr.heap.size 50 33 (.slice sp 0 cap) 0 [] ∧ Below wr.heap.size wr w' := by
        by_cases h0 : 0 < N
        · exact (growB_any N h0 (by omega) wr).mono fun e w' ⟨c, _, he, ho, hb⟩ => ⟨_, c, he, ho, hb⟩
        · obtain rfl : N = 0 := by omega
          refine (growB_zero wr).mono ?_
          rintro e w' ⟨rfl, rfl⟩
          exact ⟨none, 0, rfl, World.ownsRow_nil _ _ _ _, Below.refl _ _⟩
      have HGR := Lib.hid hgrow; clear hgrow
      go_wp2_with fail
      refine HGR.out.mono ?_
      rintro e w1 ⟨spg, cg, rfl, hog, hbg⟩
      have HB1 := Lib.hid (hbe.out.trans (hbg.mono hbe.out.size))
      have HOG : Hid (w1.ownsRow w.heap.size 50 33 (.slice spg 0 cg) 0 []) := by
        obtain ⟨hl, h1 | ⟨g, cap, cur, e, hbg', rest⟩⟩ := hog
        · exact ⟨hl, .inl h1⟩
        · exact ⟨hl, .inr ⟨g, cap, cur, e, Nat.le_trans hbe.out.size hbg', rest⟩⟩
      clear hog hbg HGR
      go_wp2_with fail
      go_loopw [6, 27] (fun v i wr => ∃ (j m : Nat) (sp : Option Addr) (cap : Nat), j ≤ k ∧ i = .int .i64 j ∧ v = .slice sp m cap ∧ Hid (m = totG LL j) ∧ Hid (OwnB wr w.heap.size (.slice sp m cap) ((LL.take j).flatten)) ∧ Hid (Below w.heap.size w wr)) (fun _ i _ => k - (intOf i).toNat)
      case atStart => exact ⟨0, 0, _, _, Nat.zero_le _, rfl, rfl, rfl, ⟨HOG.out, by simp⟩, HB1.out⟩
      case round =>
        rename_i wr2 _
        obtain ⟨j, m, sp, cap, hj, rfl, rfl, HM, hown, hbe2⟩ := hrel
        have hT := totG_le LL j
        have hm := HM.out
        by_cases hlt : j < k
        · have hd : decide ((j : Int) < (k : Int)) = true := by simp; omega
          obtain ⟨pb, po, rfl, hpb, hc⟩ := HP.out.cells (by omega)
          have hkl : j < ls.length := by rw [HP.out.len]; exact hlt
          obtain ⟨q, hq⟩ : ∃ q, ls[j]? = some q := ⟨ls[j], List.getElem?_eq_getElem hkl⟩
          have hqe : ls[j] = q := by rw [List.getElem?_eq_getElem hkl] at hq; exact Option.some.inj hq
          have hc1 := (hbe2.out.cell (p := ⟨pb, po + j, none⟩) hpb).trans (hc j hkl)
          rw [hqe] at hc1
          have hc2 := hc1
          unfold Lb.val at hc2
          have hqm := List.mem_of_getElem? hq
          have hqn : q.n = q.l.length := ((HP.out.each q hqm).len).symm
          have hLk : LL[j]? = some q.l := by rw [HLL.out, List.getElem?_map, hq]; rfl
          have hT1 := totG_succ hLk
          have hT2 := totG_le LL (j + 1)
          have HSRC := Lib.hid (((HP.out.below hbe2.out (Nat.le_refl _)).each q hqm))
          have HFL := Lib.hid (flat_takeG hLk)
          have HML : Hid (m = ((LL.take j).flatten).length) := by show _ = _; rw [flat_lenT, hm]
          have HQN := Lib.hid (HNIL.out q hqm)
          have HT1 : Hid (totG LL (j + 1) = m + q.n) := by show _ = _; rw [hT1, hqn, hm]
          have hsum : m + q.n ≤ 1000000 := by rw [← HT1.out]; have := HN.out; omega
          have p1 : (0 : Int) ≤ (j : Int) := by omega
          have p2 : (j : Int) < (k : Int) := by omega
          have hbs := hbe2.out.size
          clear hc hc1 hkl hqe hT hT1 hT2 hLk hq hqm hm hqn
          go_wp2_with (at_builtin; refine wpList_append_bls rfl (.tmp 31) (.tmp 32) rfl w.heap.size _ _ m HML.out rfl hown.out _ _ _ _ q.l rfl HSRC.out HQN.out hsum hbs ?_; intro sp5 cap5 w5 HO5 HB5 HG5)
          have HB6 := Lib.hid (hbe2.out.trans HB5.out)
          go_roundw
          case rel =>
            refine ⟨j + 1, m + q.n, sp5, cap5, hlt, by go_num, rfl, HT1.out.symm, ?_, HB6⟩
            have h1 := HO5.out
            rw [← HFL.out] at h1
            exact h1
          case measure => simp [intOf]; omega
        · obtain rfl : j = k := by omega
          have hd : decide ((j : Int) < (j : Int)) = false := by simp
          have HTT : Hid (LL.take j = LL) := by show _ = _; rw [List.take_of_length_le (by omega)]
          go_wp2_with fail
          go_ret
          refine ⟨sp, m, cap, rfl, ?_, ?_, hbe2.out⟩
          · rw [HM.out, ← flat_lenT, HTT.out]
          · have h1 := hown.out
            rw [HTT.out] at h1
            exact h1
end Go.Proofs.YtdjknefbaclleaaGreatDoor

namespace Go.Proofs.YtdjknefbaclleaaGreatDoor
open Go.RowKit

set_option maxRecDepth 100000 in
set_option maxHeartbeats 400000 in
theorem insertion1_any (sp : Option Addr) (cap : Nat) (f : Value) (w : World) :
    Calls Tryz.prog 113 #[.slice sp 1 cap, .int .i64 0, .int .i64 1, f] w fun e w' => e = .returned (.tuple #[]) ∧ Below w.heap.size w w' := by
  go_enter Tryz.func113, Tryz.ntmps113
  go_wp2_with fail
  go_loopw [8] (fun i wr => i = .int .i64 1 ∧ Hid (Below w.heap.size w wr)) (fun i _ => 0)
  case atStart => exact ⟨rfl, Below.refl _ _⟩
  case round =>
    obtain ⟨rfl, hbe⟩ := hrel
    go_wp2_with fail
    go_end0
    exact ⟨rfl, hbe.out⟩
set_option maxRecDepth 100000 in
set_option maxHeartbeats 400000 in
theorem stable1_any (sp : Option Addr) (cap : Nat) (f : Value) (w : World) :
    Calls Tryz.prog 100 #[.slice sp 1 cap, .int .i64 1, f] w fun e w' => e = .returned (.tuple #[]) ∧ Below w.heap.size w w' := by
  go_enter Tryz.func100, Tryz.ntmps100
  go_wp2_with fail
  go_loopw [7, 8] (fun i j wr => i = .int .i64 0 ∧ j = .int .i64 20 ∧ Hid (Below w.heap.size w wr)) (fun _ _ _ => 0)
  case atStart => exact ⟨rfl, rfl, Below.refl _ _⟩
  case round =>
    obtain ⟨rfl, rfl, hbe⟩ := hrel
    go_wp2_with fail
    refine (insertion1_any sp cap f _).mono ?_
    rintro e w1 ⟨rfl, hb1⟩
    have HB1 := Lib.hid (hbe.out.trans (hb1.mono hbe.out.size)); clear hb1
    go_wp2_with fail
    go_loopw [6] (fun i wr => i = .int .i64 20 ∧ Hid (Below w.heap.size w wr)) (fun _ _ => 0)
    case atStart => exact ⟨rfl, HB1.out⟩
    case round =>
      obtain ⟨rfl, hbe2⟩ := hrel
      go_wp2_with fail
      go_end0
      exact ⟨rfl, hbe2.out⟩
set_option maxRecDepth 100000 in
set_option maxHeartbeats 400000 in
theorem sort1_any (sp : Option Addr) (cap : Nat) (f : Value) (w : World) :
    Calls Tryz.prog 75 #[.slice sp 1 cap, f] w fun e w' => e = .returned (.tuple #[]) ∧ Below w.heap.size w w' := by
  go_enter Tryz.func75, Tryz.ntmps75
  go_wp2_with fail
  refine (stable1_any sp cap f _).mono ?_
  rintro e w1 ⟨rfl, hb1⟩
  have HB1 := Lib.hid hb1; clear hb1
  go_wp2_with fail
  go_end0
  exact ⟨rfl, HB1.out⟩
set_option maxRecDepth 100000 in
set_option maxHeartbeats 400000 in
theorem compact1_any (sp : Option Addr) (cap : Nat) (f : Value) (w : World) :
    Calls Tryz.prog 76 #[.slice sp 1 cap, f] w fun e w' => e = .returned (.slice sp 1 cap) ∧ w = w' := by
  go_enter Tryz.func76, Tryz.ntmps76
  go_wp2_with fail
  go_ret
  exact ⟨rfl, rfl⟩
set_option maxRecDepth 100000 in
set_option maxHeartbeats 1000000 in
theorem union1_any (g : Nat) (x : Bl) (w : World) (hx : BlsIn w w.heap.size (some ⟨g, 0, none⟩) 1 1 [x]) :
    Calls Tryz.prog 48 #[.slice none 0 0, .slice (some ⟨g, 0, none⟩) 1 1] w fun e w' => ∃ sp cap, e = .returned (.slice sp 1 cap) ∧ OwnB w' w.heap.size (.slice sp 1 cap) [x] ∧ Below w.heap.size w w' := by
  have HX := Lib.hid hx; clear hx
  have hcc : ∀ w1, Below w.heap.size w w1 → ∀ b, w1.heap[b]? = some (.cells #[.slice none 0 0, .slice (some ⟨g, 0, none⟩) 1 1] 24 (0, 0)) → w.heap.size ≤ w1.heap.size →
      Calls Tryz.prog 74 #[.slice (some ⟨b, 0, none⟩) 2 2] w1 fun e w' => ∃ sp cap, e = .returned (.slice sp 1 cap) ∧ OwnB w' w1.heap.size (.slice sp 1 cap) [x] ∧ Below w1.heap.size w1 w' := by
    intro w1 hb b hg hs
    have hbl := (Array.getElem?_eq_some_iff.1 hg).1
    have hp : LbsIn w1 w1.heap.size (some ⟨b, 0, none⟩) 2 [⟨none, 0, 0, []⟩, ⟨some ⟨g, 0, none⟩, 1, 1, [x]⟩] := by
      refine ⟨rfl, fun _ => ⟨b, 0, rfl, hbl, fun j hj => ?_⟩, fun q hq => ?_⟩
      · rw [Nat.zero_add, cell_of_row w1 b j _ _ _ hg]
        have : j = 0 ∨ j = 1 := by simp at hj; omega
        rcases this with rfl | rfl <;> rfl
      · simp at hq
        rcases hq with rfl | rfl
        · exact BlsIn.nil _ _
        · exact (HX.out.below hb (Nat.le_refl _)).below (Below.refl w1.heap.size w1) hs
    refine (concatB_any (some ⟨b, 0, none⟩) 2 2 _ w1 hp ?_ (by simp) (by omega)).mono ?_
    · intro q hq
      simp at hq
      rcases hq with rfl | rfl
      · intro _; rfl
      · intro h; cases h
    · rintro e w' ⟨sp, n, cap, rfl, hn, ho, hb2⟩
      simp at hn
      subst hn
      exact ⟨sp, cap, rfl, by simpa using ho, hb2⟩
  have HCC := Lib.hid hcc; clear hcc
  have HRB := Lib.hid (fun w : World => (show (Instr.buildSlice 137 2 #[(0, .slice none 0 0), (1, .slice (some ⟨g, 0, none⟩) 1 1)]).run Tryz.prog w = .ok (.slice (some ⟨w.heap.size, 0, none⟩) 2 2) (w.alloc (.cells #[.slice none 0 0, .slice (some ⟨g, 0, none⟩) 1 1] 24)) by kernel_rfl))
  go_enter Tryz.func48, Tryz.ntmps48
  go_wp2_with (refine wpList_slice_eqG rfl 137 2 [(0, .tmp 6), (1, .tmp 7)] rfl [(0, .slice none 0 0), (1, .slice (some ⟨g, 0, none⟩) 1 1)] rfl _ _ (HRB.out _) ?_; generalize hw0 : World.alloc w _ = w0; have hg0 := (by rw [← hw0]; exact heap_alloc_new w _ : w0.heap[w.heap.size]? = some (.cells #[.slice none 0 0, .slice (some ⟨g, 0, none⟩) 1 1] 24 (0, 0))); have hb0 : Below w.heap.size w w0 := (by rw [← hw0]; exact (Below.refl _ _).alloc (Nat.le_refl _) _); have HG0 := Lib.hid hg0; have HB0 := Lib.hid hb0; clear hw0 hg0 hb0)
  refine (HCC.out _ HB0.out _ HG0.out HB0.out.size).mono ?_
  rintro e w1 ⟨sp, cap, rfl, ho, hb1⟩
  have HO := Lib.hid (ho.base HB0.out.size); have HB1 := Lib.hid (HB0.out.trans (hb1.mono HB0.out.size)); clear ho hb1
  go_wp2_with fail
  refine (sort1_any sp cap _ _).mono ?_
  rintro e w2 ⟨rfl, hb2⟩
  have HO2 := Lib.hid (HO.out.below hb2); have HB2 := Lib.hid (HB1.out.trans (hb2.mono HB1.out.size)); clear hb2
  go_wp2_with fail
  refine (compact1_any sp cap _ _).mono ?_
  rintro e w3 ⟨rfl, rfl⟩
  go_wp2_with fail
  go_ret
  exact ⟨sp, cap, rfl, HO2.out, HB2.out⟩
end Go.Proofs.YtdjknefbaclleaaGreatDoor

namespace Go.Proofs.YtdjknefbaclleaaGreatDoor
open Go.RowKit

set_option maxRecDepth 100000 in
set_option maxHeartbeats 1000000 in
theorem concatS_any (pa : Option Addr) (np ncap : Nat) (ls : List Ln) (w : World) (hp : LinesIn w w.heap.size pa np ls) (hnil : ∀ q ∈ ls, q.sp = none → q.cap = 0) (htot : ((ls.map (·.l)).flatten).length ≤ 1000000) (hnp : np ≤ 9223372036854775806) :
    Calls Tryz.prog 43 #[.slice pa np ncap] w fun e w' => ∃ sp n cap, e = .returned (.slice sp n cap) ∧ n = ((ls.map (·.l)).flatten).length ∧ World.ownsRow w' w.heap.size 9 1 (.slice sp n cap) ((ls.map (·.l)).flatten).length (((ls.map (·.l)).flatten).map Value.string) ∧ Below w.heap.size w w' := by
  have HP := Lib.hid hp; have HNIL := Lib.hid hnil
  clear hp hnil
  obtain ⟨LL, hLL⟩ : ∃ LL, LL = ls.map (·.l) := ⟨_, rfl⟩
  rw [← hLL] at htot ⊢
  have HLL := Lib.hid hLL; clear hLL
  have hLn : LL.length = np := by rw [HLL.out, List.length_map, HP.out.len]
  go_enter Tryz.func43, Tryz.ntmps43
  go_wp2_with fail
  go_loopw [3, 11] (fun v i wr => ∃ k : Nat, k ≤ np ∧ i = .int .i64 k ∧ v = .int .i64 (totG LL k) ∧ Hid (Below w.heap.size w wr)) (fun _ i _ => np - (intOf i).toNat)
  case atStart => exact ⟨0, Nat.zero_le _, rfl, rfl, Below.refl _ _⟩
  case round =>
    obtain ⟨k, hk, rfl, rfl, hbe⟩ := hrel
    have hT := totG_le LL k
    by_cases hlt : k < np
    · have hd : decide ((k : Int) < (np : Int)) = true := by simp; omega
      obtain ⟨pb, po, rfl, hpb, hc⟩ := HP.out.cells (by omega)
      have hkl : k < ls.length := by rw [HP.out.len]; exact hlt
      obtain ⟨q, hq⟩ : ∃ q, ls[k]? = some q := ⟨ls[k], List.getElem?_eq_getElem hkl⟩
      have hqe : ls[k] = q := by rw [List.getElem?_eq_getElem hkl] at hq; exact Option.some.inj hq
      have hc1 := (hbe.out.cell (p := ⟨pb, po + k, none⟩) hpb).trans (hc k hkl)
      rw [hqe] at hc1
      have hc2 : wr.cell? ⟨pb, po + k, none⟩ = some (.slice q.sp q.n q.cap) := hc1
      have hqn : q.n = q.l.length := ((HP.out.each q (List.mem_of_getElem? hq)).len).symm
      have hLk : LL[k]? = some q.l := by rw [HLL.out, List.getElem?_map, hq]; rfl
      have hT1 := totG_succ hLk
      have hT2 := totG_le LL (k + 1)
      have p1 : (0 : Int) ≤ (k : Int) := by omega
      have p2 : (k : Int) < (np : Int) := by omega
      have hd2 : decide ((totG LL k : Int) + (q.n : Int) < 0) = false := neg_falseG _ _
      have hbd : -9223372036854775808 ≤ (totG LL k : Int) + (q.n : Int) ∧ (totG LL k : Int) + (q.n : Int) ≤ 9223372036854775807 := by omega
      have w1 : IntKind.i64.wrap ((totG LL k : Int) + (q.n : Int)) = (totG LL k : Int) + (q.n : Int) := IntWalk.i64_in _ hbd
      have w2 : wrap64 ((totG LL k : Int) + (q.n : Int)) = (totG LL k : Int) + (q.n : Int) := wrap64_inG _ hbd
      have HT1 : Hid (totG LL (k + 1) = totG LL k + q.n) := by show _ = _; rw [hT1, hqn]
      clear hc hc1 hkl hqe hT hT1 hT2 hLk hq hqn hbd
      go_wp2_with fail
      go_roundw
      case rel => exact ⟨k + 1, hlt, by go_num, by rw [HT1.out]; first | rfl | go_num | simp, hbe⟩
      case measure => simp [intOf]; omega
    · obtain rfl : k = np := by omega
      have hd : decide ((k : Int) < (k : Int)) = false := by simp
      have hTk : totG LL k = LL.flatten.length := by rw [← totG_all LL, hLn]
      rw [hTk]
      obtain ⟨N, hN⟩ : ∃ N, N = LL.flatten.length := ⟨_, rfl⟩
      rw [← hN] at htot ⊢
      have HN := Lib.hid hN; clear hN hTk hT
      have hgrow : Calls Tryz.prog 60 #[.slice none 0 0, .int .i64 N] wr fun e w' => ∃ sp cap, e = .returned (.slice sp 0 cap) ∧ w'.ownsRow wr.heap.size 9 1 (.slice sp 0 cap) 0 [] ∧ Below wr.heap.size wr w' := by
        by_cases h0 : 0 < N
        · exact (growS_any N h0 (by omega) wr).mono fun e w' ⟨c, _, he, ho, hb⟩ => ⟨_, c, he, ho, hb⟩
        · obtain rfl : N = 0 := by omega
          refine (growS_zero wr).mono ?_
          rintro e w' ⟨rfl, rfl⟩
          exact ⟨none, 0, rfl, World.ownsRow_nil _ _ _ _, Below.refl _ _⟩
      have HGR := Lib.hid hgrow; clear hgrow
      go_wp2_with fail
      refine HGR.out.mono ?_
      rintro e w1 ⟨spg, cg, rfl, hog, hbg⟩
      have HB1 := Lib.hid (hbe.out.trans (hbg.mono hbe.out.size))
      have HOG : Hid (w1.ownsRow w.heap.size 9 1 (.slice spg 0 cg) 0 []) := by
        obtain ⟨hl, h1 | ⟨g, cap, cur, e, hbg', rest⟩⟩ := hog
        · exact ⟨hl, .inl h1⟩
        · exact ⟨hl, .inr ⟨g, cap, cur, e, Nat.le_trans hbe.out.size hbg', rest⟩⟩
      clear hog hbg HGR
      go_wp2_with fail
      go_loopw [6, 27] (fun v i wr => ∃ (j m : Nat) (sp : Option Addr) (cap : Nat), j ≤ k ∧ i = .int .i64 j ∧ v = .slice sp m cap ∧ Hid (m = totG LL j) ∧ Hid (World.ownsRow wr w.heap.size 9 1 (.slice sp m cap) ((LL.take j).flatten).length (((LL.take j).flatten).map Value.string)) ∧ Hid (Below w.heap.size w wr)) (fun _ i _ => k - (intOf i).toNat)
      case atStart => exact ⟨0, 0, _, _, Nat.zero_le _, rfl, rfl, rfl, HOG.out, HB1.out⟩
      case round =>
        rename_i wr2 _
        obtain ⟨j, m, sp, cap, hj, rfl, rfl, HM, hown, hbe2⟩ := hrel
        have hT := totG_le LL j
        have hm := HM.out
        by_cases hlt : j < k
        · have hd : decide ((j : Int) < (k : Int)) = true := by simp; omega
          obtain ⟨pb, po, rfl, hpb, hc⟩ := HP.out.cells (by omega)
          have hkl : j < ls.length := by rw [HP.out.len]; exact hlt
          obtain ⟨q, hq⟩ : ∃ q, ls[j]? = some q := ⟨ls[j], List.getElem?_eq_getElem hkl⟩
          have hqe : ls[j] = q := by rw [List.getElem?_eq_getElem hkl] at hq; exact Option.some.inj hq
          have hc1 := (hbe2.out.cell (p := ⟨pb, po + j, none⟩) hpb).trans (hc j hkl)
          rw [hqe] at hc1
          have hc2 := hc1
          unfold Ln.val at hc2
          have hqm := List.mem_of_getElem? hq
          have hqn : q.n = q.l.length := ((HP.out.each q hqm).len).symm
          have hLk : LL[j]? = some q.l := by rw [HLL.out, List.getElem?_map, hq]; rfl
          have hT1 := totG_succ hLk
          have hT2 := totG_le LL (j + 1)
          have HSRC := Lib.hid (((HP.out.below hbe2.out (Nat.le_refl _)).each q hqm))
          have HFL := Lib.hid (flat_takeG hLk)
          have HML : Hid (m = ((LL.take j).flatten).length) := by show _ = _; rw [flat_lenT, hm]
          have HQN := Lib.hid (HNIL.out q hqm)
          have HT1 : Hid (totG LL (j + 1) = m + q.n) := by show _ = _; rw [hT1, hqn, hm]
          have hsum : m + q.n ≤ 1000000 := by rw [← HT1.out]; have := HN.out; omega
          have p1 : (0 : Int) ≤ (j : Int) := by omega
          have p2 : (j : Int) < (k : Int) := by omega
          have hbs := hbe2.out.size
          clear hc hc1 hkl hqe hT hT1 hT2 hLk hq hqm hm hqn
          go_wp2_with (at_builtin; refine wpList_append_strs rfl (.tmp 31) (.tmp 32) rfl w.heap.size _ _ m HML.out rfl hown.out _ _ _ _ q.l rfl HSRC.out HQN.out hsum hbs ?_; intro sp5 cap5 w5 HO5 HB5 HG5)
          have HB6 := Lib.hid (hbe2.out.trans HB5.out)
          go_roundw
          case rel =>
            refine ⟨j + 1, m + q.n, sp5, cap5, hlt, by go_num, rfl, HT1.out.symm, ?_, HB6⟩
            have h1 := HO5.out
            rw [← HFL.out] at h1
            exact h1
          case measure => simp [intOf]; omega
        · obtain rfl : j = k := by omega
          have hd : decide ((j : Int) < (j : Int)) = false := by simp
          have HTT : Hid (LL.take j = LL) := by show _ = _; rw [List.take_of_length_le (by omega)]
          go_wp2_with fail
          go_ret
          refine ⟨sp, m, cap, rfl, ?_, ?_, hbe2.out⟩
          · rw [HM.out, ← flat_lenT, HTT.out]
          · have h1 := hown.out
            rw [HTT.out] at h1
            exact h1
end Go.Proofs.YtdjknefbaclleaaGreatDoor
