/-
  The walks of strings.IndexByte, strings.Index, strings.Count, strings.genSplit and strings.Split at a separator of one byte (condition: a string of at most 10000000 bytes).
-/
import Derived.Test.YtdjknefbaclleaaGreatDoorChecked
import Derived.WalkKit
import Derived.Lib.SplitLaws
import Derived.Lib.Bytealg
import Derived.Lib.IndexBytes
import Derived.Below
import Derived.Lib.Hide
import Derived.Deep.OwnRows
import Derived.Deep.LoopGhost
import Derived.IntWalk
import Derived.Test.YtdjknefbaclleaaGreatDoorGc
import Derived.OwnWalk
import Derived.Laws.Entries
import Derived.Deep.MidRow
import Derived.Laws.BytesString
namespace Go.Proofs.YtdjknefbaclleaaGreatDoor
open Go.RowKit

set_option maxHeartbeats 400000 in
set_option maxRecDepth 100000 in
theorem indexByteLite_anyS (s : ByteArray) (c : Int) (w : World) :
    Calls Tryz.prog 109 #[.string s, .int .u8 c] w fun e w' => e = .returned (.int .i64 (Lib.indexByte s.data.toList c.toNat.toUInt8)) ∧ w = w' := by
  go_enter Tryz.func109, Tryz.ntmps109
  go_wp2
  rw [run_callFunc_extern Tryz.func122 (by kernel_rfl) (by kernel_rfl) (by kernel_rfl) (e := Extern.BytealgIndexByte.indexByte) (by kernel_rfl), Lib.run_indexByteString]
  simp only [Result.andThen]
  rw [Oper.upon_value]
  go_wp2
  go_ret
  exact ⟨rfl, rfl⟩
/-- a string of one byte -/
def oneB (c : UInt8) : ByteArray := ⟨#[c]⟩
theorem oneB_size (c : UInt8) : (oneB c).size = 1 := rfl
theorem oneB_at (c : UInt8) (h : 0 < (oneB c).size) : (oneB c)[0] = c := rfl
theorem indexB_oneS (s : ByteArray) (c : UInt8) : Lib.indexB s (oneB c) = Lib.indexByte s.data.toList c := by
  show Lib.index s.data.toList [c] = _
  exact Lib.index_one _ _
theorem byte_backS (c : UInt8) : ((c.toNat : Int)).toNat.toUInt8 = c := by simp
set_option maxHeartbeats 400000 in
theorem indexLite_anyS (s : ByteArray) (c : UInt8) (w : World) :
    Calls Tryz.prog 118 #[.string s, .string (oneB c)] w fun e w' => e = .returned (.int .i64 (Lib.indexB s (oneB c))) ∧ w = w' := by
  have hsz := oneB_size c
  have hat := oneB_at c
  rw [indexB_oneS]
  have hne : (oneB c).toList ≠ [] := by rw [Lib.toList_data]; simp [oneB]
  by_cases h : ((oneB c).toList == s.toList) = true
  · have hl : s.data.toList = [c] := by rw [beq_iff_eq, Lib.toList_data, Lib.toList_data] at h; exact h.symm
    have HI : Hid (Lib.indexByte s.data.toList c = 0) := by show _ = _; rw [hl]; simp [Lib.indexByte]
    clear hl
    go_enter Tryz.func118, Tryz.ntmps118
    go_wp2_with fail
    go_ret
    exact ⟨by rw [HI.out]; rfl, rfl⟩
  · have h : ((oneB c).toList == s.toList) = false := by simpa using h
    have HC := Lib.hid (fun w => indexByteLite_anyS s (c.toNat : Int) w)
    have HB := Lib.hid (byte_backS c)
    go_enter Tryz.func118, Tryz.ntmps118
    go_wp2_with fail
    refine (HC.out _).mono ?_
    rintro e w' ⟨rfl, rfl⟩
    rw [HB.out]
    go_wp2_with fail
    go_ret
    exact ⟨rfl, rfl⟩
set_option maxHeartbeats 400000 in
theorem index_anyS (s : ByteArray) (c : UInt8) (w : World) :
    Calls Tryz.prog 103 #[.string s, .string (oneB c)] w fun e w' => e = .returned (.int .i64 (Lib.indexB s (oneB c))) ∧ w = w' := by
  go_enter Tryz.func103, Tryz.ntmps103
  go_wp2_with (go_at_call 118; refine (indexLite_anyS _ _ _).mono ?_; rintro e w' ⟨rfl, rfl⟩)
  go_ret
  exact ⟨rfl, rfl⟩
theorem countB_oneS (s : ByteArray) (c : UInt8) : Lib.countB s (oneB c) = Lib.countByte s.data.toList c := by
  show Lib.count s.data.toList [c] = _
  exact Lib.count_one _ _
set_option maxHeartbeats 400000 in
set_option maxRecDepth 100000 in
theorem count_anyS (s : ByteArray) (c : UInt8) (w : World) :
    Calls Tryz.prog 102 #[.string s, .string (oneB c)] w fun e w' => e = .returned (.int .i64 (Lib.countB s (oneB c) : Int)) ∧ w = w' := by
  have hsz := oneB_size c
  have hat := oneB_at c
  rw [countB_oneS]
  have HB := Lib.hid (byte_backS c)
  go_enter Tryz.func102, Tryz.ntmps102
  go_wp2_with fail
  rw [run_callFunc_extern Tryz.func117 (by kernel_rfl) (by kernel_rfl) (by kernel_rfl) (e := Extern.BytealgCount.count) (by kernel_rfl), Lib.run_countString, HB.out]
  simp only [Result.andThen]
  rw [Oper.upon_value]
  go_wp2_with fail
  go_ret
  exact ⟨rfl, rfl⟩
theorem infoStrS : (Tryz.prog.info? 9).map (fun i => (i.zero, i.size, i.bytes)) = some (some (.string ByteArray.empty), 1, 16) := by kernel_rfl
theorem makeS (n : Nat) (h : n ≤ 100000000) (w : World) : (Instr.makeSlice 40 (.int .i64 ((n : Int) + 1)) (.int .i64 ((n : Int) + 1))).run Tryz.prog w = .ok (.slice (some ⟨w.heap.size, 0, none⟩) (n + 1) (n + 1)) (w.alloc (.cells (Lib.cellsOf [] (n + 1)) 9)) := by
  have h1 := run_make_row' (P := Tryz.prog) 40 9 (.string ByteArray.empty) 16 Tryz.underlying40 infoStrS rfl .i64 .i64 (n + 1) (by omega) (by omega) w
  rw [← Lib.cellsOf_nil] at h1
  exact h1
theorem splitB_missS (s : ByteArray) (c : UInt8) (h : Lib.indexB s (oneB c) = -1) (m : Nat) : Lib.splitB (oneB c) 0 m s = [s] := Lib.splitB_miss _ _ _ _ h
set_option maxHeartbeats 1000000 in
set_option maxRecDepth 100000 in
theorem genSplit_anyS (s : ByteArray) (c : UInt8) (w : World) (hs : s.size ≤ 10000000) :
    Calls Tryz.prog 81 #[.string s, .string (oneB c), .int .i64 0, .int .i64 (-1)] w fun e w' => e = .returned (.slice (some ⟨w.heap.size, 0, none⟩) (Lib.countB s (oneB c) + 1) (Lib.countB s (oneB c) + 1)) ∧
      w' = w.alloc (.cells ((Lib.splitB (oneB c) 0 (Lib.countB s (oneB c)) s).map Value.string).toArray 9) := by
  have hsz := oneB_size c
  have hne : (oneB c).toList ≠ [] := by rw [Lib.toList_data]; simp [oneB]
  have hn1 : ((oneB c).toList == []) = false := by simpa using hne
  have hn2 : (oneB c).toList.isEmpty = false := by simpa using hne
  have hle := Lib.countB_le (oneB c) (by rw [hsz]; exact Nat.le_refl _) s.size s (Nat.le_refl _)
  have hall := Lib.splitB_all (oneB c) (by rw [hsz]; exact Nat.le_refl _) 0 _ s rfl
  have HC := Lib.hid (fun w => count_anyS s c w)
  have HIX := Lib.hid (fun r w => index_anyS r c w)
  obtain ⟨N, hN⟩ : ∃ N, Lib.countB s (oneB c) = N := ⟨_, rfl⟩
  rw [hN] at hle hall HC ⊢
  obtain ⟨ps, hps⟩ : ∃ ps, Lib.splitB (oneB c) 0 N s = ps := ⟨_, rfl⟩
  rw [hps] at hall ⊢
  have HALL := Lib.hid hall; have HPS := Lib.hid hps
  have hmin : min ((N : Int) + 1) ((s.size : Int) + 1) = (N : Int) + 1 := Int.min_eq_left (by omega)
  have hmk := makeS N (by omega)
  have q1 : (N : Int) ≤ 10000000 := by omega
  clear hN hall hps
  go_enter Tryz.func81, Tryz.ntmps81
  go_wp2_with fail
  refine (HC.out _).mono ?_
  rintro e w' ⟨rfl, rfl⟩
  go_wp2_with fail
  clear hmk hmin HC
  go_loopw [0, 10] (fun sv iv wr => ∃ (done : List ByteArray) (rest : ByteArray), sv = .string rest ∧ iv = .int .i64 (done.length : Int) ∧ done.length ≤ N ∧ rest.size ≤ s.size ∧ Hid (done ++ Lib.splitB (oneB c) 0 (N - done.length) rest = ps) ∧ wr = w.alloc (.cells (Lib.cellsOf done (N + 1)) 9)) (fun _ iv _ => N - (intOf iv).toNat)
  case atStart => exact ⟨[], s, rfl, rfl, Nat.zero_le _, Nat.le_refl _, HPS.out, rfl⟩
  case round =>
    obtain ⟨done, rest, rfl, rfl, hd, hrs, HS, rfl⟩ := hrel
    have hnext : (Lib.cellsOf done (N + 1))[done.length]? = some (.string ByteArray.empty) := Lib.cellsOf_next (by omega)
    have hcz := Lib.cellsOf_size (done := done) (N := N + 1) (by omega)
    have HSET := Lib.hid (fun x => Lib.cellsOf_set (done := done) (N := N + 1) (by omega) x)
    obtain ⟨k, hk⟩ : ∃ k, done.length = k := ⟨_, rfl⟩
    rw [hk] at hnext HSET hd HS ⊢
    have HK := Lib.hid hk
    have p1 : (0 : Int) ≤ (k : Int) := by omega
    have p2 : (k : Int) < (N : Int) + 1 := by omega
    by_cases hlt : k < N
    · have hdl : decide ((k : Int) < (N : Int)) = true := by simp; omega
      rcases Lib.indexB_cases rest (oneB c) with hix | ⟨i, hix, hroom⟩
      · exfalso
        have e := HS.out
        rw [splitB_missS rest c hix] at e
        have := HALL.out
        rw [← e, List.length_append, hk] at this
        simp at this
        omega
      · have HI := Lib.hid hix
        have hr1 : i + 1 ≤ rest.size := hroom
        have HSN : Hid ((done ++ [rest.extract 0 i]) ++ Lib.splitB (oneB c) 0 (N - (k + 1)) (rest.extract (i + 1) rest.size) = ps) := by
          show _ = _
          have e := HS.out
          rw [show N - k = (N - (k + 1)) + 1 by omega, Lib.splitB_hit (oneB c) 0 _ rest i hix] at e
          rw [← e, List.append_assoc]; rfl
        have c0 : decide ((i : Int) < 0) = false := by simp
        have c1 : (0 : Int) ≤ (i : Int) := by omega
        have c2 : (i : Int) ≤ (rest.size : Int) := by omega
        have c3 : (0 : Int) ≤ (i : Int) + 1 := by omega
        have c4 : (i : Int) + 1 ≤ (rest.size : Int) := by omega
        have c5 : ((i : Int) + 1).toNat = i + 1 := by omega
        have c6 : (i : Int) ≤ 10000000 := by omega
        clear hix hroom hk
        go_wp2_with fail
        refine (HIX.out rest _).mono ?_
        rintro e w' ⟨rfl, rfl⟩
        rw [HI.out]
        go_wp2_with fail
        go_roundw
        case rel =>
          refine ⟨done ++ [rest.extract 0 i], _, rfl, ?_, ?_, ?_, ?_, ?_⟩
          · rw [List.length_append, HK.out]; go_num
          · rw [List.length_append, HK.out]; exact hlt
          · rw [ByteArray.size_extract]; omega
          · rw [List.length_append, HK.out]; exact HSN
          · rw [HSET.out]
        case measure => simp [intOf]; omega
    · obtain rfl : k = N := by omega
      have hdl : decide ((k : Int) < (k : Int)) = false := by simp
      have HF : Hid ((Lib.cellsOf done (k + 1)).setIfInBounds k (.string rest) = (ps.map Value.string).toArray) := by
        show _ = _
        have e := HS.out
        rw [Nat.sub_self] at e
        have e2 : done ++ [rest] = ps := e
        rw [HSET.out, e2]
        have := Lib.cellsOf_full ps
        rw [HALL.out] at this
        exact this
      have p3 : (0 : Int) ≤ (k : Int) + 1 := by omega
      have p4 : ((k : Int) + 1).toNat = k + 1 := by omega
      clear hk
      go_wp2_with fail
      go_ret
      refine ⟨rfl, ?_⟩
      rw [← HF.out]
set_option maxHeartbeats 400000 in
theorem split_anyS (s : ByteArray) (c : UInt8) (w : World) (hs : s.size ≤ 10000000) :
    Calls Tryz.prog 55 #[.string s, .string (oneB c)] w fun e w' => e = .returned (.slice (some ⟨w.heap.size, 0, none⟩) (Lib.countB s (oneB c) + 1) (Lib.countB s (oneB c) + 1)) ∧
      w' = w.alloc (.cells ((Lib.splitB (oneB c) 0 (Lib.countB s (oneB c)) s).map Value.string).toArray 9) := by
  have HC := Lib.hid (fun w => genSplit_anyS s c w hs)
  clear hs
  go_enter Tryz.func55, Tryz.ntmps55
  go_wp2_with fail
  refine (HC.out _).mono ?_
  rintro e w' ⟨rfl, rfl⟩
  go_wp2_with fail
  go_ret
  exact ⟨rfl, rfl⟩
end Go.Proofs.YtdjknefbaclleaaGreatDoor

namespace Go.Proofs.YtdjknefbaclleaaGreatDoor
open Go.RowKit

def spB : ByteArray := oneB 32
/-- the pieces of a string between spaces -/
def pcs (c : UInt8) (s : ByteArray) : List ByteArray := Lib.splitB (oneB c) 0 (Lib.countB s (oneB c)) s
theorem pcs_len (c : UInt8) (s : ByteArray) : (pcs c s).length = Lib.countB s (oneB c) + 1 := Lib.splitB_all (oneB c) (Nat.le_refl _) 0 _ s rfl
theorem own_shapeD {w : World} {base e size : Nat} {v : Value} {n : Nat} {xs : List Value} (h : w.ownsRow base e size v n xs) : ∃ sp cap, v = .slice sp n cap := by
  obtain ⟨_, ⟨rfl, rfl⟩ | ⟨g, cap, cur, rfl, _⟩⟩ := h
  · exact ⟨none, 0, rfl⟩
  · exact ⟨_, cap, rfl⟩
theorem own_baseD {w : World} {base e size : Nat} {v : Value} {n : Nat} {xs : List Value} (h : w.ownsRow base e size v n xs) : ∀ k, v.ownBlock = some k → base ≤ k := fun k hk => (h.lt k hk).1
theorem own_belowD {w w' : World} {B e size n : Nat} {v : Value} {xs : List Value} (h : w.ownsRow B e size v n xs) (hb : Below w.heap.size w w') : w'.ownsRow B e size v n xs := by
  obtain ⟨h0, h1 | ⟨g, cap, cur, h1, h2, h3, h4⟩⟩ := h
  · exact ⟨h0, .inl h1⟩
  · exact ⟨h0, .inr ⟨g, cap, cur, h1, h2, (hb.block g (Array.getElem?_eq_some_iff.1 h3).1).trans h3, h4⟩⟩
/-- append(own, one string) -/
theorem wpList_append_str {P : Program} {w : World} {ops : Array Oper} {rest : List Oper} {o : Oper} {a : Act} {Q : Exit → Act → World → Prop} (hgd : o.guard = none) (s x : Operand) (t e : TypeId)
    (ho : o.op = .call { callee := .builtin .append, args := #[s, x], argTypes := #[t, t] }) (ht : P.underlying t = some (.slice e)) (hi : (P.info? e).map (fun i => (i.zero, i.size, i.bytes)) = some (some (.string ByteArray.empty), 1, 16))
    (base : Nat) (v : Value) (xs : List ByteArray) (n : Nat) (hs : a.eval s = v) (hn : n = xs.length) (hown : w.ownsRow base e 1 v n (xs.map Value.string))
    (g : Nat) (y : ByteArray) (hx : a.eval x = .slice (some ⟨g, 0, none⟩) 1 1) (hc : w.cell? ⟨g, 0, none⟩ = some (.string y))
    (hlen : n ≤ 100000000) (hbase : base ≤ w.heap.size)
    (h : ∀ sp cap w', Hid (w'.ownsRow base e 1 (.slice sp (n + 1) cap) (n + 1) ((xs ++ [y]).map Value.string)) → w.grownBy w' v.ownBlock → wpList P ops Q rest (a.put o.dst (.slice sp (n + 1) cap)) w') : wpList P ops Q (o :: rest) a w := by
  obtain ⟨i0, hi0, hz0, hz1, hz2⟩ := info_parts hi
  refine wpList_append_own w hgd s x t ho base e i0 _ 1 16 ht hi0 hz0 hz1 hz2 rfl (by decide) v n _ hs hown ⟨g, 0, none⟩ 1 1 [.string y] hx rfl ?_ (by intro u hu; simp at hu; subst hu; rfl) (by unfold maxLen; omega) (by omega) hbase ?_
  · intro j u hj
    have hj0 : j = 0 := by have := (List.getElem?_eq_some_iff.1 hj).1; simp at this; omega
    subst hj0
    simp at hj; subst hj; rw [Addr.add_mid]; exact hc
  · intro v' w' h1 h2 _
    obtain ⟨sp, cap, rfl⟩ := own_shapeD h1
    exact h sp cap w' (by show World.ownsRow _ _ _ _ _ _ _; rw [List.map_append]; exact h1) h2
/-- what a word's text, what texts stand for -/
def unwS (s : ByteArray) : Option ByteArray := (unword s.data.toList).map fun m => ⟨m.toArray⟩
def unwsL : List ByteArray → Option (List ByteArray)
  | [] => some []
  | s :: r => match unwS s with
    | none => none
    | some x => (unwsL r).map (x :: ·)
theorem unwsL_none {s : ByteArray} {r : List ByteArray} (h : unwS s = none) : unwsL (s :: r) = none := by rw [unwsL, h]
theorem unwsL_some {s x : ByteArray} {r : List ByteArray} (h : unwS s = some x) : unwsL (s :: r) = (unwsL r).map (x :: ·) := by rw [unwsL, h]
theorem UnwS_any (s : ByteArray) (w : World) (hs : s.size ≤ 1099511627776) :
    Calls Tryz.prog 106 #[.string s] w fun e w' => (match unwS s with | some x => e = .returned (.tuple #[.string x, .bool true]) | none => e = .returned (.tuple #[.string ⟨#[]⟩, .bool false])) ∧ Below w.heap.size w w' :=
  (Unword_any s w hs).mono fun e w' h => by
    unfold UnwRes at h
    unfold unwS
    cases hu : unword s.data.toList with
    | none => rw [hu] at h; exact h
    | some l => rw [hu] at h; exact h
/-- what convert leaves -/
def ConvRes (w : World) (r : Option (List ByteArray)) (e : Ending) (w' : World) : Prop := match r with
  | none => e = .returned (.tuple #[.slice none 0 0, .bool false]) ∧ Below w.heap.size w w'
  | some xs => ∃ sp cap, e = .returned (.tuple #[.slice sp xs.length cap, .bool true]) ∧ w'.ownsRow w.heap.size 9 1 (.slice sp xs.length cap) xs.length (xs.map Value.string) ∧ Below w.heap.size w w'
theorem convRes_none {w : World} {r : Option (List ByteArray)} {e : Ending} {w' : World} (h : r = none) (he : e = .returned (.tuple #[.slice none 0 0, .bool false])) (hb : Below w.heap.size w w') : ConvRes w r e w' := by unfold ConvRes; rw [h]; exact ⟨he, hb⟩
set_option maxRecDepth 100000 in
set_option maxHeartbeats 1000000 in
theorem convW_any (g n : Nat) (ws : List ByteArray) (w : World) (hn : ws.length = n) (hn2 : n ≤ 10000001) (hg : g < w.heap.size) (hrow : ∀ j, j < n → w.cell? ⟨g, j, none⟩ = some (.string (ws.getD j ByteArray.empty))) (hsz : ∀ x ∈ ws, x.size ≤ 1099511627776) :
    Calls Tryz.prog 105 #[.slice (some ⟨g, 0, none⟩) n n, .func (.func 106) #[] #[]] w (ConvRes w (unwsL ws)) := by
  have HN := Lib.hid hn; have HROW := Lib.hid hrow; have HSZ := Lib.hid hsz
  obtain ⟨i0, hi0, hz0, hz1, hz2⟩ := info_parts infoStrS
  clear hn hrow hsz
  go_enter Tryz.func105, Tryz.ntmps105
  go_wp2_with (refine wpList_make_own w rfl _ _ 40 rfl w.heap.size 9 i0 _ 1 Tryz.underlying40 hi0 hz0 hz1 .i64 .i64 (n : Int) n rfl rfl rfl (by rw [hz2]; omega) (by unfold maxLen; omega) (Nat.le_refl _) ?_; intro w1 hown1 hg1)
  have HB1 := Lib.hid ((Below.refl w.heap.size w).grown hg1 (Nat.le_refl _) (fun k e => by cases e))
  have HO1 := Lib.hid hown1
  clear hg1 hown1 hi0 hz0 hz1 hz2
  go_loopw [6, 16] (fun v i wr => ∃ (k : Nat) (done : List ByteArray) (sp : Option Addr) (cap : Nat), k ≤ n ∧ i = .int .i64 k ∧ Hid (k = done.length) ∧ v = .slice sp k cap ∧ Hid (unwsL ws = (unwsL (ws.drop k)).map (done ++ ·)) ∧ Hid (wr.ownsRow w.heap.size 9 1 (.slice sp k cap) k (done.map Value.string)) ∧ Hid (Below w.heap.size w wr)) (fun _ i _ => n - (intOf i).toNat)
  case atStart => exact ⟨0, [], _, _, Nat.zero_le _, rfl, rfl, rfl, by show _ = _; simp, HO1.out, HB1.out⟩
  case round =>
    clear HO1 HB1
    obtain ⟨k, done, sp, cap, hk, rfl, HK, rfl, HR, hown, hbe⟩ := hrel
    have hbs := hbe.out.size
    by_cases hlt : k < n
    · have hd : decide ((k : Int) < (n : Int)) = true := by simp; omega
      have p1 : (0 : Int) ≤ (k : Int) := by omega
      have p2 : (k : Int) < (n : Int) := by omega
      have hlw : k < ws.length := by rw [HN.out]; exact hlt
      have c1 := (hbe.out.cell (p := ⟨g, k, none⟩) hg).trans (HROW.out k hlt)
      have hge : ws.getD k ByteArray.empty = ws[k] := by rw [List.getD_eq_getElem?_getD, List.getElem?_eq_getElem hlw]; rfl
      rw [hge] at c1
      have hdr : ws.drop k = ws[k] :: ws.drop (k + 1) := List.drop_eq_getElem_cons hlw
      have hc := fun w => UnwS_any ws[k] w (HSZ.out _ (List.getElem_mem hlw))
      obtain ⟨x, hx⟩ : ∃ x, ws[k] = x := ⟨_, rfl⟩
      rw [hx] at c1 hdr hc
      clear hge hx
      cases hu : unwS x with
      | none =>
        have HX : Hid (unwsL ws = none) := by show _ = _; rw [HR.out, hdr, unwsL_none hu]; rfl
        rw [hu] at hc
        have HC := Lib.hid hc
        clear hc hu hdr
        go_wp2_with fail
        refine (HC.out _).mono ?_
        rintro e w6 ⟨rfl, b6⟩
        have B6 := Lib.hid (hbe.out.trans (b6.mono hbs))
        clear b6
        go_wp2_with fail
        go_ret2
        exact convRes_none HX.out rfl B6.out
      | some y =>
        have HX : Hid (unwsL ws = (unwsL (ws.drop (k + 1))).map ((done ++ [y]) ++ ·)) := by
          show _ = _
          rw [HR.out, hdr, unwsL_some hu, Option.map_map]
          congr 1
          funext z
          simp
        rw [hu] at hc
        have HC := Lib.hid hc
        clear hc hu hdr
        go_wp2_with fail
        refine (HC.out _).mono ?_
        rintro e w6 ⟨rfl, b6⟩
        have B6 := Lib.hid (hbe.out.trans (b6.mono hbs))
        have hz6 := B6.out.size
        have hown6 := Lib.hid (own_belowD hown.out b6)
        clear b6 c1
        go_wp2_with (first
          | (at_builtin; refine wpList_append_str rfl (.tmp 28) (.tmp 30) 40 9 rfl Tryz.underlying40 infoStrS w.heap.size _ done k rfl HK.out (hown6.out.alloc _) w6.heap.size y rfl (by simp) (by omega) (by simp; omega) ?_; intro sp5 cap5 w5 hown5 hg5))
        have hbe5 := (B6.out.alloc hz6 (.cells #[.string y] 9)).grown hg5 (by simp; omega) (own_baseD hown6.out)
        go_roundw
        case rel => exact ⟨k + 1, done ++ [y], sp5, cap5, by omega, by go_num, by show _ = _; rw [List.length_append, ← HK.out]; rfl, rfl, HX, hown5, hbe5⟩
        case measure => simp [intOf]; omega
    · obtain rfl : n = k := by omega
      have hd : decide ((n : Int) < (n : Int)) = false := by simp
      have HX : Hid (unwsL ws = some done) := by
        show _ = _
        rw [HR.out, List.drop_eq_nil_of_le (by rw [HN.out]; exact Nat.le_refl _)]; simp [unwsL]
      go_wp2_with fail
      go_ret2
      unfold ConvRes
      rw [HX.out]
      have h1 := hown.out
      have h2 := HK.out
      rw [h2] at h1 ⊢
      exact ⟨sp, cap, rfl, h1, hbe.out⟩
end Go.Proofs.YtdjknefbaclleaaGreatDoor

namespace Go.Proofs.YtdjknefbaclleaaGreatDoor
open Go.RowKit

theorem below_allocD (w : World) (o : Obj) : Below w.heap.size w (w.alloc o) := (Below.refl _ _).alloc (Nat.le_refl _) _
theorem own_monoD {w : World} {base base' : Nat} {e : TypeId} {size : Nat} {v : Value} {n : Nat} {xs : List Value} (h : w.ownsRow base e size v n xs) (hb : base' ≤ base) : w.ownsRow base' e size v n xs :=
  ⟨h.1, h.2.imp id fun ⟨g, cap, cur, h1, h2, h3⟩ => ⟨g, cap, cur, h1, Nat.le_trans hb h2, h3⟩⟩
theorem splitB_size (sep : ByteArray) : ∀ (k : Nat) (s : ByteArray), ∀ x ∈ Lib.splitB sep 0 k s, x.size ≤ s.size
  | 0, s, x, hx => by rw [Lib.splitB_zero, List.mem_singleton] at hx; subst hx; exact Nat.le_refl _
  | k + 1, s, x, hx => by
    unfold Lib.splitB at hx
    split at hx
    · rw [List.mem_singleton] at hx; subst hx; exact Nat.le_refl _
    · rcases List.mem_cons.1 hx with h | h
      · subst h; rw [ByteArray.size_extract]; omega
      · have := splitB_size sep k _ x h
        rw [ByteArray.size_extract] at this
        omega
theorem pcs_size (c : UInt8) (s : ByteArray) : ∀ x ∈ pcs c s, x.size ≤ s.size := splitB_size _ _ _
theorem pcs_cnt (c : UInt8) (s : ByteArray) : Lib.countB s (oneB c) ≤ s.size := Lib.countB_le (oneB c) (Nat.le_refl _) s.size s (Nat.le_refl _)
set_option maxRecDepth 100000 in
set_option maxHeartbeats 1000000 in
theorem readLine_any (s : ByteArray) (w : World) (hs : s.size ≤ 10000000) :
    Calls Tryz.prog 86 #[.string s] w (ConvRes w (unwsL (pcs 32 s))) := by
  have HC := Lib.hid (fun w => split_anyS s 32 w hs)
  have hl := pcs_len 32 s
  have hc := pcs_cnt 32 s
  have hz := pcs_size 32 s
  have HV : Hid (∀ w1, w1 = w.alloc (.cells ((pcs 32 s).map Value.string).toArray 9) → Calls Tryz.prog 105 #[.slice (some ⟨w.heap.size, 0, none⟩) (Lib.countB s (oneB 32) + 1) (Lib.countB s (oneB 32) + 1), .func (.func 106) #[] #[]] w1 fun e w' => ∃ v b, e = .returned (.tuple #[v, .bool b]) ∧ ConvRes w (unwsL (pcs 32 s)) e w') := by
    rintro w1 rfl
    have hb := below_allocD w (.cells ((pcs 32 s).map Value.string).toArray 9)
    have hnew := heap_alloc_new w (.cells ((pcs 32 s).map Value.string).toArray 9)
    refine (convW_any w.heap.size (Lib.countB s (oneB 32) + 1) (pcs 32 s) _ hl (by omega) (by simp) (fun j hj => ?_) (fun x hx => Nat.le_trans (hz x hx) (by omega))).mono fun e w' h => ?_
    · rw [cell_of_row _ w.heap.size j _ _ (0, 0) hnew]
      have : j < (pcs 32 s).length := by omega
      simp [this]
    · unfold ConvRes at h ⊢
      cases hu : unwsL (pcs 32 s) with
      | none =>
        rw [hu] at h
        obtain ⟨h1, h2⟩ := h
        exact ⟨_, _, h1, h1, hb.trans (h2.mono hb.size)⟩
      | some xs =>
        rw [hu] at h
        obtain ⟨sp, cap, h1, h2, h3⟩ := h
        exact ⟨_, _, h1, sp, cap, h1, own_monoD h2 hb.size, hb.trans (h3.mono hb.size)⟩
  clear hl hc hz hs
  go_enter Tryz.func86, Tryz.ntmps86
  go_wp2_with fail
  refine (HC.out _).mono ?_
  rintro e w1 ⟨rfl, hw⟩
  have HW := Lib.hid hw
  clear hw
  go_wp2_with fail
  refine (HV.out w1 HW.out).mono ?_
  rintro e w2 ⟨v, b, rfl, hr⟩
  have HR := Lib.hid hr
  clear hr
  go_wp2_with fail
  go_ret2
  exact HR.out
end Go.Proofs.YtdjknefbaclleaaGreatDoor

namespace Go.Proofs.YtdjknefbaclleaaGreatDoor
open Go.RowKit

theorem own_apart {w : World} {b1 b2 e1 e2 s1 s2 : Nat} {v1 v2 : Value} {n1 n2 : Nat} {x1 x2 : List Value} (h1 : w.ownsRow b1 e1 s1 v1 n1 x1) (h2 : w.ownsRow b2 e2 s2 v2 n2 x2) (hne : e1 ≠ e2) : v1.ownBlock = none ∨ v1.ownBlock ≠ v2.ownBlock := by
  obtain ⟨_, ⟨rfl, _⟩ | ⟨g1, c1, u1, rfl, _, g1h, _⟩⟩ := h1
  · exact .inl rfl
  · obtain ⟨_, ⟨rfl, _⟩ | ⟨g2, c2, u2, rfl, _, g2h, _⟩⟩ := h2
    · exact .inr (by simp [Value.ownBlock])
    · refine .inr (fun e => hne ?_)
      have e' : g1 = g2 := by simpa [Value.ownBlock] using e
      subst e'
      rw [g1h] at g2h
      injection g2h with g2h
      injection g2h
theorem infoLn : (Tryz.prog.info? 40).map (fun i => (i.zero, i.size, i.bytes)) = some (some (.slice none 0 0), 1, 24) := by kernel_rfl
/-- append(own, one slice) -/
theorem wpList_append_ln {P : Program} {w : World} {ops : Array Oper} {rest : List Oper} {o : Oper} {a : Act} {Q : Exit → Act → World → Prop} (hgd : o.guard = none) (s x : Operand) (t e : TypeId)
    (ho : o.op = .call { callee := .builtin .append, args := #[s, x], argTypes := #[t, t] }) (ht : P.underlying t = some (.slice e)) (hi : (P.info? e).map (fun i => (i.zero, i.size, i.bytes)) = some (some (.slice none 0 0), 1, 24))
    (base : Nat) (v : Value) (xs : List Ln) (n : Nat) (hs : a.eval s = v) (hn : n = xs.length) (hown : w.ownsRow base e 1 v n (xs.map Ln.val))
    (g : Nat) (y : Ln) (hx : a.eval x = .slice (some ⟨g, 0, none⟩) 1 1) (hc : w.cell? ⟨g, 0, none⟩ = some y.val)
    (hlen : n ≤ 100000000) (hbase : base ≤ w.heap.size)
    (h : ∀ sp cap w', Hid (w'.ownsRow base e 1 (.slice sp (n + 1) cap) (n + 1) ((xs ++ [y]).map Ln.val)) → w.grownBy w' v.ownBlock → wpList P ops Q rest (a.put o.dst (.slice sp (n + 1) cap)) w') : wpList P ops Q (o :: rest) a w := by
  obtain ⟨i0, hi0, hz0, hz1, hz2⟩ := info_parts hi
  refine wpList_append_own w hgd s x t ho base e i0 _ 1 24 ht hi0 hz0 hz1 hz2 rfl (by decide) v n _ hs hown ⟨g, 0, none⟩ 1 1 [y.val] hx rfl ?_ (by intro u hu; simp at hu; subst hu; rfl) (by unfold maxLen; omega) (by omega) hbase ?_
  · intro j u hj
    have hj0 : j = 0 := by have := (List.getElem?_eq_some_iff.1 hj).1; simp at this; omega
    subst hj0
    simp at hj; subst hj; rw [Addr.add_mid]; exact hc
  · intro v' w' h1 h2 _
    obtain ⟨sp, cap, rfl⟩ := own_shapeD h1
    exact h sp cap w' (by show World.ownsRow _ _ _ _ _ _ _; rw [List.map_append]; exact h1) h2
/-- a line that the call owns -/
def LnOwn (w : World) (base : Nat) (q : Ln) : Prop := w.ownsRow base 9 1 (.slice q.sp q.n q.cap) q.n (q.l.map Value.string)
/-- what rows stand for -/
def unlL : List ByteArray → Option (List (List ByteArray))
  | [] => some []
  | s :: r => match unwsL (pcs 32 s) with
    | none => none
    | some x => (unlL r).map (x :: ·)
theorem unlL_none {s : ByteArray} {r : List ByteArray} (h : unwsL (pcs 32 s) = none) : unlL (s :: r) = none := by rw [unlL, h]
theorem unlL_some {s : ByteArray} {x : List ByteArray} {r : List ByteArray} (h : unwsL (pcs 32 s) = some x) : unlL (s :: r) = (unlL r).map (x :: ·) := by rw [unlL, h]
/-- what convert leaves -/
def ConvL (w : World) (r : Option (List (List ByteArray))) (e : Ending) (w' : World) : Prop := match r with
  | none => e = .returned (.tuple #[.slice none 0 0, .bool false]) ∧ Below w.heap.size w w'
  | some L => ∃ (sp : Option Addr) (cap : Nat) (ls : List Ln), wordsOf ls = L ∧ e = .returned (.tuple #[.slice sp ls.length cap, .bool true]) ∧ w'.ownsRow w.heap.size 40 1 (.slice sp ls.length cap) ls.length (ls.map Ln.val) ∧ (∀ q ∈ ls, LnOwn w' w.heap.size q) ∧ Below w.heap.size w w'
theorem convL_none {w : World} {r : Option (List (List ByteArray))} {e : Ending} {w' : World} (h : r = none) (he : e = .returned (.tuple #[.slice none 0 0, .bool false])) (hb : Below w.heap.size w w') : ConvL w r e w' := by unfold ConvL; rw [h]; exact ⟨he, hb⟩
set_option maxRecDepth 100000 in
set_option maxHeartbeats 1000000 in
theorem convLs_any (g n : Nat) (ws : List ByteArray) (w : World) (hn : ws.length = n) (hn2 : n ≤ 10000001) (hg : g < w.heap.size) (hrow : ∀ j, j < n → w.cell? ⟨g, j, none⟩ = some (.string (ws.getD j ByteArray.empty))) (hsz : ∀ x ∈ ws, x.size ≤ 10000000) :
    Calls Tryz.prog 85 #[.slice (some ⟨g, 0, none⟩) n n, .func (.func 86) #[] #[]] w (ConvL w (unlL ws)) := by
  have HN := Lib.hid hn; have HROW := Lib.hid hrow; have HSZ := Lib.hid hsz
  obtain ⟨i0, hi0, hz0, hz1, hz2⟩ := info_parts infoLn
  clear hn hrow hsz
  go_enter Tryz.func85, Tryz.ntmps85
  go_wp2_with (refine wpList_make_own w rfl _ _ 45 rfl w.heap.size 40 i0 _ 1 Tryz.underlying45 hi0 hz0 hz1 .i64 .i64 (n : Int) n rfl rfl rfl (by rw [hz2]; omega) (by unfold maxLen; omega) (Nat.le_refl _) ?_; intro w1 hown1 hg1)
  have HB1 := Lib.hid ((Below.refl w.heap.size w).grown hg1 (Nat.le_refl _) (fun k e => by cases e))
  have HO1 := Lib.hid hown1
  clear hg1 hown1 hi0 hz0 hz1 hz2
  go_loopw [6, 16] (fun v i wr => ∃ (k : Nat) (done : List Ln) (sp : Option Addr) (cap : Nat), k ≤ n ∧ i = .int .i64 k ∧ Hid (k = done.length) ∧ v = .slice sp k cap ∧ Hid (unlL ws = (unlL (ws.drop k)).map (wordsOf done ++ ·)) ∧ Hid (wr.ownsRow w.heap.size 40 1 (.slice sp k cap) k (done.map Ln.val)) ∧ Hid (∀ q ∈ done, LnOwn wr w.heap.size q) ∧ Hid (Below w.heap.size w wr)) (fun _ i _ => n - (intOf i).toNat)
  case atStart => exact ⟨0, [], _, _, Nat.zero_le _, rfl, rfl, rfl, by show _ = _; simp [wordsOf], HO1.out, (fun q hq => by cases hq), HB1.out⟩
  case round =>
    clear HO1 HB1
    obtain ⟨k, done, sp, cap, hk, rfl, HK, rfl, HR, hown, hea, hbe⟩ := hrel
    have hbs := hbe.out.size
    by_cases hlt : k < n
    · have hd : decide ((k : Int) < (n : Int)) = true := by simp; omega
      have p1 : (0 : Int) ≤ (k : Int) := by omega
      have p2 : (k : Int) < (n : Int) := by omega
      have hlw : k < ws.length := by rw [HN.out]; exact hlt
      have c1 := (hbe.out.cell (p := ⟨g, k, none⟩) hg).trans (HROW.out k hlt)
      have hge : ws.getD k ByteArray.empty = ws[k] := by rw [List.getD_eq_getElem?_getD, List.getElem?_eq_getElem hlw]; rfl
      rw [hge] at c1
      have hdr : ws.drop k = ws[k] :: ws.drop (k + 1) := List.drop_eq_getElem_cons hlw
      have hc := fun w => readLine_any ws[k] w (HSZ.out _ (List.getElem_mem hlw))
      obtain ⟨x, hx⟩ : ∃ x, ws[k] = x := ⟨_, rfl⟩
      rw [hx] at c1 hdr hc
      clear hge hx
      cases hu : unwsL (pcs 32 x) with
      | none =>
        have HX : Hid (unlL ws = none) := by show _ = _; rw [HR.out, hdr, unlL_none hu]; rfl
        rw [hu] at hc
        have HC : Hid (∀ w, Calls Tryz.prog 86 #[.string x] w fun e w' => e = .returned (.tuple #[.slice none 0 0, .bool false]) ∧ Below w.heap.size w w') := hc
        clear hc hu hdr
        go_wp2_with fail
        refine (HC.out _).mono ?_
        rintro e w6 ⟨rfl, b6⟩
        have B6 := Lib.hid (hbe.out.trans (b6.mono hbs))
        clear b6
        go_wp2_with fail
        go_ret2
        exact convL_none HX.out rfl B6.out
      | some xs =>
        rw [hu] at hc
        have HC : Hid (∀ w, Calls Tryz.prog 86 #[.string x] w fun e w' => ∃ sp cap, e = .returned (.tuple #[.slice sp xs.length cap, .bool true]) ∧ w'.ownsRow w.heap.size 9 1 (.slice sp xs.length cap) xs.length (xs.map Value.string) ∧ Below w.heap.size w w') := hc
        have HX : Hid (∀ y : Ln, y.l = xs → unlL ws = (unlL (ws.drop (k + 1))).map (wordsOf (done ++ [y]) ++ ·)) := by
          rintro y rfl
          rw [HR.out, hdr, unlL_some hu, Option.map_map]
          congr 1
          funext z
          simp [wordsOf]
        clear hc hu hdr
        go_wp2_with fail
        refine (HC.out _).mono ?_
        rintro e w6 ⟨sp6, cap6, rfl, o6, b6⟩
        have B6 := Lib.hid (hbe.out.trans (b6.mono hbs))
        have hz6 := B6.out.size
        have hown6 := Lib.hid (own_belowD hown.out b6)
        have HEA6 : Hid (∀ q ∈ done, LnOwn w6 w.heap.size q) := fun q hq => own_belowD (hea.out q hq) b6
        have HO6 : Hid (LnOwn w6 w.heap.size ⟨sp6, xs.length, cap6, xs⟩) := own_monoD o6 hbs
        have HX2 := Lib.hid (HX.out ⟨sp6, xs.length, cap6, xs⟩ rfl)
        clear b6 c1 o6 HX hea
        go_wp2_with (first
          | (at_builtin; refine wpList_append_ln rfl (.tmp 28) (.tmp 30) 45 40 rfl Tryz.underlying45 infoLn w.heap.size _ done k rfl HK.out (hown6.out.alloc _) w6.heap.size (⟨sp6, xs.length, cap6, xs⟩ : Ln) rfl (by simp [Ln.val]) (by omega) (by simp; omega) ?_; intro sp5 cap5 w5 hown5 hg5))
        have hbe5 := (B6.out.alloc hz6 (.cells #[.slice sp6 xs.length cap6] 40)).grown hg5 (by simp; omega) (own_baseD hown6.out)
        have HEA5 : Hid (∀ q ∈ done ++ [(⟨sp6, xs.length, cap6, xs⟩ : Ln)], LnOwn w5 w.heap.size q) := by
          intro q hq
          have hq6 : LnOwn w6 w.heap.size q := by
            rcases List.mem_append.1 hq with h | h
            · exact HEA6.out q h
            · rw [List.mem_singleton.1 h]; exact HO6.out
          exact World.ownsRow.kept (World.ownsRow.alloc hq6 _) hg5 (own_apart (w := w6) hq6 hown6.out (by decide))
        go_roundw
        case rel => exact ⟨k + 1, done ++ [(⟨sp6, xs.length, cap6, xs⟩ : Ln)], sp5, cap5, by omega, by go_num, by show _ = _; rw [List.length_append, ← HK.out]; rfl, rfl, HX2.out, hown5, HEA5.out, hbe5⟩
        case measure => simp [intOf]; omega
    · obtain rfl : n = k := by omega
      have hd : decide ((n : Int) < (n : Int)) = false := by simp
      have HX : Hid (unlL ws = some (wordsOf done)) := by
        show _ = _
        rw [HR.out, List.drop_eq_nil_of_le (by rw [HN.out]; exact Nat.le_refl _)]; simp [unlL]
      go_wp2_with fail
      go_ret2
      unfold ConvL
      rw [HX.out]
      have h1 := hown.out
      have h2 := HK.out
      rw [h2] at h1 ⊢
      exact ⟨sp, cap, done, rfl, rfl, h1, hea.out, hbe.out⟩
end Go.Proofs.YtdjknefbaclleaaGreatDoor

namespace Go.Proofs.YtdjknefbaclleaaGreatDoor
open Go.RowKit

theorem one_list (x : UInt8) : (⟨#[x]⟩ : ByteArray).toList = [x] := by rw [Lib.toList_data]
theorem last_byte (s : ByteArray) (h : 0 < s.size) : (s.extract (s.size - 1) s.size).toList = [s[s.size - 1]] := by
  rw [Lib.toList_data, ByteArray.data_extract, Array.toList_extract, List.extract_eq_take_drop, show s.size - (s.size - 1) = 1 by omega]
  rw [List.drop_eq_getElem_cons (by simpa using (show s.size - 1 < s.size by omega))]
  rfl
/-- whether a string ends a line -/
def endN (s : ByteArray) : Bool := decide (s.data.toList.getLast? = some 10)
theorem endN_last (s : ByteArray) (h : 0 < s.size) : endN s = decide (s[s.size - 1] = 10) := by
  unfold endN
  rw [decide_eq_decide, List.getLast?_eq_getElem?, ← Lib.size_eq, List.getElem?_eq_getElem (by simpa using (show s.size - 1 < s.size by omega))]
  simp; rfl
set_option maxHeartbeats 400000 in
theorem hasSuffix_any (s : ByteArray) (w : World) (h : 0 < s.size) (hs : s.size ≤ 10000000) :
    Calls Tryz.prog 119 #[.string s, .string ⟨#[10]⟩] w fun e w' => e = .returned (.bool (endN s)) ∧ w = w' := by
  have hd : decide ((s.size : Int) ≥ 1) = true := by simp; omega
  have q0 : (0 : Int) ≤ (s.size : Int) - 1 := by omega
  have q1 : (s.size : Int) - 1 ≤ (s.size : Int) := by omega
  have q2 : ((s.size : Int) - 1).toNat = s.size - 1 := by omega
  have hl := last_byte s h
  have HE : Hid (endN s = (s[s.size - 1] == 10)) := by
    show _ = _
    rw [endN_last s h, Bool.eq_iff_iff]; simp
  go_enter Tryz.func119, Tryz.ntmps119
  go_wp2_with fail
  go_ret
  exact ⟨by rw [HE.out]; rfl, rfl⟩
set_option maxHeartbeats 400000 in
theorem cutSufLite_any (s : ByteArray) (w : World) (h : 0 < s.size) (hs : s.size ≤ 10000000) :
    Calls Tryz.prog 104 #[.string s, .string ⟨#[10]⟩] w fun e w' => e = .returned (if endN s = true then .tuple #[.string (s.extract 0 (s.size - 1)), .bool true] else .tuple #[.string s, .bool false]) ∧ w = w' := by
  have q0 : (0 : Int) ≤ (s.size : Int) - 1 := by omega
  have q1 : (s.size : Int) - 1 ≤ (s.size : Int) := by omega
  have q2 : ((s.size : Int) - 1).toNat = s.size - 1 := by omega
  have HP := Lib.hid (fun w => hasSuffix_any s w h hs)
  obtain ⟨b, hb⟩ : ∃ b, endN s = b := ⟨_, rfl⟩
  rw [hb] at HP ⊢
  clear hb
  cases b
  · rw [if_neg (by simp)]
    go_enter Tryz.func104, Tryz.ntmps104
    go_wp2_with fail
    refine (HP.out _).mono ?_
    rintro e w1 ⟨rfl, rfl⟩
    go_wp2_with fail
    go_ret2
    exact ⟨rfl, rfl⟩
  · rw [if_pos rfl]
    go_enter Tryz.func104, Tryz.ntmps104
    go_wp2_with fail
    refine (HP.out _).mono ?_
    rintro e w1 ⟨rfl, rfl⟩
    go_wp2_with fail
    go_ret2
    exact ⟨rfl, rfl⟩
set_option maxHeartbeats 400000 in
theorem cutSuf_any (s : ByteArray) (w : World) (h : 0 < s.size) (hs : s.size ≤ 10000000) :
    Calls Tryz.prog 84 #[.string s, .string ⟨#[10]⟩] w fun e w' => e = .returned (if endN s = true then .tuple #[.string (s.extract 0 (s.size - 1)), .bool true] else .tuple #[.string s, .bool false]) ∧ w = w' := by
  have HP := Lib.hid (fun w => cutSufLite_any s w h hs)
  clear h hs
  obtain ⟨b, hb⟩ : ∃ b, endN s = b := ⟨_, rfl⟩
  rw [hb] at HP ⊢
  clear hb
  cases b
  · rw [if_neg (by simp)] at HP ⊢
    go_enter Tryz.func84, Tryz.ntmps84
    go_wp2_with fail
    refine (HP.out _).mono ?_
    rintro e w1 ⟨rfl, rfl⟩
    go_wp2_with fail
    go_ret2
    exact ⟨rfl, rfl⟩
  · rw [if_pos rfl] at HP ⊢
    go_enter Tryz.func84, Tryz.ntmps84
    go_wp2_with fail
    refine (HP.out _).mono ?_
    rintro e w1 ⟨rfl, rfl⟩
    go_wp2_with fail
    go_ret2
    exact ⟨rfl, rfl⟩
/-- what a text's lines stand for -/
def rdoc (s : ByteArray) : Option (List (List ByteArray)) := if s.data.toList = [] then some [] else if endN s = true then unlL (pcs 10 (s.extract 0 (s.size - 1))) else none
set_option maxRecDepth 100000 in
set_option maxHeartbeats 1000000 in
theorem readLines_any (s : ByteArray) (w : World) (hs : s.size ≤ 10000000) :
    Calls Tryz.prog 58 #[.string s] w (ConvL w (rdoc s)) := by
  by_cases he : s.size = 0
  · have hl : s.data.toList = [] := List.eq_nil_of_length_eq_zero (by rw [← Lib.size_eq]; exact he)
    have hl2 : s.toList = [] := by rw [Lib.toList_data]; exact hl
    have HR : Hid (rdoc s = some []) := by show _ = _; unfold rdoc; rw [if_pos hl]
    clear hl he
    go_enter Tryz.func58, Tryz.ntmps58
    go_wp2_with fail
    go_ret2
    unfold ConvL
    rw [HR.out]
    exact ⟨none, 0, [], rfl, rfl, World.ownsRow_nil _ _ _ _, (fun q hq => by cases hq), Below.refl _ _⟩
  · have hne : s.data.toList ≠ [] := fun h => he (by rw [Lib.size_eq, h]; rfl)
    have hl : (s.toList == []) = false := by rw [Lib.toList_data, beq_eq_false_iff_ne]; exact hne
    have hl2 : ¬ s.toList = [] := by simpa using hl
    have HC := Lib.hid (fun w => cutSuf_any s w (by omega) hs)
    have HR : Hid (rdoc s = if endN s = true then unlL (pcs 10 (s.extract 0 (s.size - 1))) else none) := by show _ = _; unfold rdoc; rw [if_neg hne]
    obtain ⟨b, hb⟩ : ∃ b, endN s = b := ⟨_, rfl⟩
    rw [hb] at HC HR
    clear hb hne
    cases b
    · rw [if_neg (by simp)] at HC HR
      clear he
      go_enter Tryz.func58, Tryz.ntmps58
      go_wp2_with fail
      refine (HC.out _).mono ?_
      rintro e w1 ⟨rfl, rfl⟩
      go_wp2_with fail
      go_ret2
      exact convL_none HR.out rfl (Below.refl _ _)
    · rw [if_pos rfl] at HC HR
      have htz : (s.extract 0 (s.size - 1)).size ≤ 10000000 := by rw [ByteArray.size_extract]; omega
      obtain ⟨T, hT⟩ : ∃ T, s.extract 0 (s.size - 1) = T := ⟨_, rfl⟩
      rw [hT] at HC HR htz
      have HS := Lib.hid (fun w => split_anyS T 10 w htz)
      have hl3 := pcs_len 10 T
      have hc := pcs_cnt 10 T
      have hz := pcs_size 10 T
      have HV : Hid (∀ w1, w1 = w.alloc (.cells ((pcs 10 T).map Value.string).toArray 9) → Calls Tryz.prog 85 #[.slice (some ⟨w.heap.size, 0, none⟩) (Lib.countB T (oneB 10) + 1) (Lib.countB T (oneB 10) + 1), .func (.func 86) #[] #[]] w1 fun e w' => ∃ v b, e = .returned (.tuple #[v, .bool b]) ∧ ConvL w (unlL (pcs 10 T)) e w') := by
        rintro w1 rfl
        have hb := below_allocD w (.cells ((pcs 10 T).map Value.string).toArray 9)
        have hnew := heap_alloc_new w (.cells ((pcs 10 T).map Value.string).toArray 9)
        refine (convLs_any w.heap.size (Lib.countB T (oneB 10) + 1) (pcs 10 T) _ hl3 (by omega) (by simp) (fun j hj => ?_) (fun x hx => Nat.le_trans (hz x hx) (by omega))).mono fun e w' h => ?_
        · rw [cell_of_row _ w.heap.size j _ _ (0, 0) hnew]
          have : j < (pcs 10 T).length := by omega
          simp [this]
        · unfold ConvL at h ⊢
          cases hu : unlL (pcs 10 T) with
          | none =>
            rw [hu] at h
            obtain ⟨h1, h2⟩ := h
            exact ⟨_, _, h1, h1, hb.trans (h2.mono hb.size)⟩
          | some xs =>
            rw [hu] at h
            obtain ⟨sp, cap, ls, h0, h1, h2, h3, h4⟩ := h
            exact ⟨_, _, h1, sp, cap, ls, h0, h1, own_monoD h2 hb.size, (fun q hq => own_monoD (h3 q hq) hb.size), hb.trans (h4.mono hb.size)⟩
      clear hl3 hc hz hs hT htz he
      go_enter Tryz.func58, Tryz.ntmps58
      go_wp2_with fail
      refine (HC.out _).mono ?_
      rintro e w1 ⟨rfl, rfl⟩
      go_wp2_with fail
      refine (HS.out _).mono ?_
      rintro e w1 ⟨rfl, hw⟩
      have HW := Lib.hid hw
      clear hw
      go_wp2_with fail
      refine (HV.out w1 HW.out).mono ?_
      rintro e w2 ⟨v, b, rfl, hr⟩
      have HR2 := Lib.hid hr
      clear hr
      go_wp2_with fail
      go_ret2
      rw [HR.out]
      exact HR2.out
end Go.Proofs.YtdjknefbaclleaaGreatDoor

namespace Go.Proofs.YtdjknefbaclleaaGreatDoor
open Go.RowKit

/-- bytes in memory, as a list of bytes -/
structure BSrc (w : World) (B : Nat) (sp : Option Addr) (n cap : Nat) (l : List UInt8) : Prop where
  len : l.length = n
  cells : 0 < n → ∃ bb off, sp = some ⟨bb, off, none⟩ ∧ bb < B ∧ n ≤ cap ∧ ∀ j (hj : j < l.length), w.cell? ⟨bb, off + j, none⟩ = some (.int .u8 (l[j].toNat : Int))
theorem BSrc.below {w w' : World} {B B' : Nat} {sp : Option Addr} {n cap : Nat} {l : List UInt8} (h : BSrc w B sp n cap l) (hb : Below B' w w') (hB : B ≤ B') : BSrc w' B sp n cap l :=
  ⟨h.len, fun hn => by
    obtain ⟨bb, off, e, hlt, hc, hcell⟩ := h.cells hn
    exact ⟨bb, off, e, hlt, hc, fun j hj => (hb.cell (p := ⟨bb, off + j, none⟩) (by show bb < B'; omega)).trans (hcell j hj)⟩⟩
theorem run_conv_src {w : World} {B : Nat} {sp : Option Addr} {n cap c2 : Nat} {l : List UInt8} (h : BSrc w B sp n cap l) : (convert 42 9 (.slice sp n c2)).run Tryz.prog w = .ok (.string ⟨l.toArray⟩) w := by
  by_cases hn : n = 0
  · have hl : l = [] := List.eq_nil_of_length_eq_zero (by rw [h.len]; exact hn)
    subst hn hl
    cases sp with
    | none =>
      rw [run_convert_bytes_string w 42 9 5 none 0 c2 Tryz.underlying42 Tryz.underlying5 Tryz.underlying9]
      rfl
    | some ad => exact run_convert_bytes_back w 42 9 5 ad c2 [] Tryz.underlying42 Tryz.underlying5 Tryz.underlying9 (fun j hj => absurd hj (by simp))
  · obtain ⟨bb, off, rfl, _, _, hc⟩ := h.cells (by omega)
    have := run_convert_bytes_back w 42 9 5 ⟨bb, off, none⟩ c2 l Tryz.underlying42 Tryz.underlying5 Tryz.underlying9 (fun j hj => by rw [Addr.add_mid]; exact hc j hj)
    rwa [h.len] at this
theorem own_le {w : World} {base e : Nat} {sp : Option Addr} {n cap : Nat} {xs : List Value} (h : w.ownsRow base e 1 (.slice sp n cap) n xs) : n ≤ maxLen := by
  obtain ⟨_, ⟨_, h2⟩ | ⟨g, c, u, _, _, _, h3, h4, _⟩⟩ := h
  · subst h2; exact Nat.zero_le _
  · exact Nat.le_trans h3 h4
theorem strs_own {w : World} {base : Nat} {q : Ln} (h : LnOwn w base q) : StrsIn w w.heap.size q.sp q.n q.l := by
  unfold LnOwn at h
  obtain ⟨h0, h1⟩ := h
  rw [List.length_map, Nat.mul_one] at h0
  refine ⟨h0, fun hn => ?_⟩
  rcases h1 with ⟨_, h2⟩ | ⟨g, c, u, e, _, hg, _, _, hs, ht⟩
  · omega
  · injection e with e1 e2 e3
    refine ⟨g, 0, e1, (Array.getElem?_eq_some_iff.1 hg).1, fun j hj => ?_⟩
    rw [cell_of_row w g (0 + j) u _ _ hg, Nat.zero_add]
    have h5 : (u.toList.take (q.n * 1))[j]? = some (.string q.l[j]) := by rw [ht]; simp [hj]
    rw [List.getElem?_take, if_pos (by omega)] at h5
    simpa using h5
theorem lines_own {w : World} {base : Nat} {sp : Option Addr} {cap : Nat} {ls : List Ln} (h : w.ownsRow base 40 1 (.slice sp ls.length cap) ls.length (ls.map Ln.val)) (he : ∀ q ∈ ls, LnOwn w base q) : LinesIn w w.heap.size sp ls.length ls := by
  refine ⟨rfl, fun hn => ?_, fun q hq => strs_own (he q hq)⟩
  obtain ⟨_, ⟨_, h2⟩ | ⟨g, c, u, e, _, hg, _, _, hs, ht⟩⟩ := h
  · omega
  · injection e with e1 e2 e3
    refine ⟨g, 0, e1, (Array.getElem?_eq_some_iff.1 hg).1, fun j hj => ?_⟩
    rw [cell_of_row w g (0 + j) u _ _ hg, Nat.zero_add]
    have h5 : (u.toList.take (ls.length * 1))[j]? = some ls[j].val := by rw [ht]; simp [hj]
    rw [List.getElem?_take, if_pos (by omega)] at h5
    simpa using h5
/-- what Decode returns, as code and lines -/
def decC (S : ByteArray) : Nat × List (List ByteArray) := if 262144 < S.size then (3, []) else match rdoc S with
  | none => (2, [])
  | some L => if chk L = 0 then (0, L) else (2, [])
def DecRes (w : World) (r : Nat × List (List ByteArray)) (e : Ending) (w' : World) : Prop :=
  ∃ (sp : Option Addr) (cap : Nat) (ls : List Ln), wordsOf ls = r.2 ∧ e = .returned (.tuple #[.slice sp ls.length cap, .int .i64 (r.1 : Int)]) ∧ w'.ownsRow w.heap.size 40 1 (.slice sp ls.length cap) ls.length (ls.map Ln.val) ∧ (∀ q ∈ ls, LnOwn w' w.heap.size q) ∧ Below w.heap.size w w'
theorem decRes_no {w : World} {r : Nat × List (List ByteArray)} {c : Nat} {e : Ending} {w' : World} (h : r = (c, [])) (he : e = .returned (.tuple #[.slice none 0 0, .int .i64 (c : Int)])) (hb : Below w.heap.size w w') : DecRes w r e w' := by
  subst h
  exact ⟨none, 0, [], rfl, he, World.ownsRow_nil _ _ _ _, (fun q hq => by cases hq), hb⟩
set_option maxRecDepth 100000 in
set_option maxHeartbeats 1000000 in
theorem Decode_any (sp : Option Addr) (n cap : Nat) (l : List UInt8) (w : World) (hs : BSrc w w.heap.size sp n cap l) :
    Calls Tryz.prog 42 #[.slice sp n cap] w (DecRes w (decC ⟨l.toArray⟩)) := by
  have hlen : (⟨l.toArray⟩ : ByteArray).size = n := by rw [Lib.size_eq]; exact hs.len
  have hcv := run_conv_src (c2 := cap) hs
  obtain ⟨S, hS⟩ : ∃ S : ByteArray, ⟨l.toArray⟩ = S := ⟨_, rfl⟩
  rw [hS] at hlen hcv ⊢
  clear hS hs
  by_cases hbig : 262144 < n
  · have hd : decide ((n : Int) > 262144) = true := by simp; omega
    have HR : Hid (decC S = (3, [])) := by show _ = _; unfold decC; rw [if_pos (by omega)]
    clear hbig hlen hcv
    go_enter Tryz.func42, Tryz.ntmps42
    go_wp2_with fail
    go_ret2
    exact decRes_no HR.out rfl (Below.refl _ _)
  · have hd : decide ((n : Int) > 262144) = false := by simp; omega
    have HRL := Lib.hid (readLines_any S w (by omega))
    have HR0 : Hid (decC S = match rdoc S with | none => (2, []) | some L => if chk L = 0 then (0, L) else (2, [])) := by show _ = _; unfold decC; rw [if_neg (by omega)]
    clear hbig hlen
    cases hr : rdoc S with
    | none =>
      rw [hr] at HRL HR0
      have HR : Hid (decC S = (2, [])) := HR0.out
      have HC : Hid (Calls Tryz.prog 58 #[.string S] w fun e w' => e = .returned (.tuple #[.slice none 0 0, .bool false]) ∧ Below w.heap.size w w') := HRL.out
      clear HRL HR0 hr
      go_enter Tryz.func42, Tryz.ntmps42
      go_wp2_with fail
      refine HC.out.mono ?_
      rintro e w1 ⟨rfl, b1⟩
      go_wp2_with fail
      go_ret2
      exact decRes_no HR.out rfl b1
    | some L =>
      rw [hr] at HRL HR0
      have HR : Hid (decC S = if chk L = 0 then (0, L) else (2, [])) := HR0.out
      have HC : Hid (Calls Tryz.prog 58 #[.string S] w fun e w' => ∃ (sp : Option Addr) (cap : Nat) (ls : List Ln), wordsOf ls = L ∧ e = .returned (.tuple #[.slice sp ls.length cap, .bool true]) ∧ w'.ownsRow w.heap.size 40 1 (.slice sp ls.length cap) ls.length (ls.map Ln.val) ∧ (∀ q ∈ ls, LnOwn w' w.heap.size q) ∧ Below w.heap.size w w') := HRL.out
      clear HRL HR0 hr
      by_cases hk : chk L = 0
      · rw [if_pos hk] at HR
        go_enter Tryz.func42, Tryz.ntmps42
        go_wp2_with fail
        refine HC.out.mono ?_
        rintro e w1 ⟨sp1, cap1, ls, hwo, rfl, o1, he1, b1⟩
        have hck := checkLines_any sp1 ls.length cap1 ls w1 (lines_own o1 he1) (own_le o1) (fun q hq => own_le (he1 q hq))
        rw [hwo, hk] at hck
        have HCK := Lib.hid hck; have HO1 := Lib.hid o1; have HE1 := Lib.hid he1; have HWO := Lib.hid hwo; have HB1 := Lib.hid b1
        clear hck o1 he1 hwo b1 hk
        go_wp2_with fail
        refine HCK.out.mono ?_
        rintro e w2 ⟨rfl, rfl⟩
        go_wp2_with fail
        go_ret2
        rw [HR.out]
        exact ⟨sp1, cap1, ls, HWO.out, rfl, HO1.out, HE1.out, HB1.out⟩
      · rw [if_neg hk] at HR
        obtain ⟨c, hc⟩ : ∃ c, chk L = c := ⟨_, rfl⟩
        rw [hc] at hk
        have hne : ((c : Int) != 0) = true := by rw [bne_iff_ne]; omega
        have HCE := Lib.hid hc
        clear hc
        go_enter Tryz.func42, Tryz.ntmps42
        go_wp2_with fail
        refine HC.out.mono ?_
        rintro e w1 ⟨sp1, cap1, ls, hwo, rfl, o1, he1, b1⟩
        have hck := checkLines_any sp1 ls.length cap1 ls w1 (lines_own o1 he1) (own_le o1) (fun q hq => own_le (he1 q hq))
        rw [hwo, HCE.out] at hck
        have HCK := Lib.hid hck; have HB1 := Lib.hid b1
        clear hck o1 he1 hwo b1
        go_wp2_with fail
        refine HCK.out.mono ?_
        rintro e w2 ⟨rfl, rfl⟩
        go_wp2_with fail
        go_ret2
        exact decRes_no HR.out rfl HB1.out
end Go.Proofs.YtdjknefbaclleaaGreatDoor

namespace Go.Proofs.YtdjknefbaclleaaGreatDoor
open Go.RowKit

theorem unwL_len : ∀ (n : Nat) (t m : List UInt8), t.length ≤ n → unwL t = some m → (m.flatMap encB).length ≤ t.length
  | _, [], m, _, h => by
    have : m = [] := by simpa [unwL] using h.symm
    subst this; exact Nat.le_refl _
  | 0, c :: t, _, hn, _ => by simp at hn
  | n + 1, c :: t, m, hn, h => by
    have hn' : t.length ≤ n := by simpa using hn
    by_cases hp : plnB c.toNat = true
    · rw [unwL_plain hp] at h
      cases hu : unwL t with
      | none => rw [hu] at h; cases h
      | some m' =>
        rw [hu] at h
        have e : m = c :: m' := by simpa using h.symm
        subst e
        rw [List.flatMap_cons, encB_plain hp, List.length_append]
        have := unwL_len n t m' hn' hu
        rw [List.length_singleton, List.length_cons]; omega
    · have hp' : plnB c.toNat = false := by simpa using hp
      by_cases hc : c = 37
      · subst hc
        rw [unwL_esc] at h
        cases he : escD t with
        | none => rw [he] at h; cases h
        | some v =>
          rw [he] at h
          have ht : 2 ≤ t.length := by
            match t, he with
            | [], he => simp [escD] at he
            | [_], he => simp [escD] at he
            | _ :: _ :: _, _ => simp
          cases hu : unwL (t.drop 2) with
          | none => rw [hu] at h; cases h
          | some m' =>
            rw [hu] at h
            have e : m = v :: m' := by simpa using h.symm
            subst e
            rw [List.flatMap_cons, List.length_append]
            have h1 := unwL_len n (t.drop 2) m' (by rw [List.length_drop]; omega) hu
            rw [List.length_drop] at h1
            have h2 := encB_le v
            rw [List.length_cons]; omega
      · rw [unwL_other hp' hc] at h; cases h
theorem unword_len {t m : List UInt8} (h : unword t = some m) : (wordL m).length ≤ t.length := by
  unfold unword at h
  by_cases h0 : t = []
  · rw [if_pos h0] at h; cases h
  · rw [if_neg h0] at h
    have hp : 1 ≤ t.length := by cases t with
      | nil => exact absurd rfl h0
      | cons _ _ => simp
    by_cases h1 : t = [126]
    · rw [if_pos h1] at h
      have e : m = [] := by simpa using h.symm
      subst e; exact hp
    · rw [if_neg h1] at h
      unfold wordL
      split
      · exact hp
      · exact unwL_len _ t m (Nat.le_refl _) h
theorem unwsL_len : ∀ (ws xs : List ByteArray), unwsL ws = some xs → (body xs).length ≤ (ws.map fun x => x.size + 1).sum ∧ xs.length = ws.length
  | [], xs, h => by
    have : xs = [] := by simpa [unwsL] using h.symm
    subst this; exact ⟨Nat.le_refl _, rfl⟩
  | s :: r, xs, h => by
    cases hu : unwS s with
    | none => rw [unwsL_none hu] at h; cases h
    | some x =>
      rw [unwsL_some hu] at h
      cases hr : unwsL r with
      | none => rw [hr] at h; cases h
      | some xs' =>
        rw [hr] at h
        have e : xs = x :: xs' := by simpa using h.symm
        subst e
        obtain ⟨h1, h2⟩ := unwsL_len r xs' hr
        have h3 : (wordL x.data.toList).length ≤ s.data.toList.length := by
          unfold unwS at hu
          cases hw : unword s.data.toList with
          | none => rw [hw] at hu; cases hu
          | some m =>
            rw [hw] at hu
            have e : x = ⟨m.toArray⟩ := by simpa using hu.symm
            subst e
            exact unword_len hw
        rw [← Lib.size_eq] at h3
        refine ⟨?_, by simp [h2]⟩
        unfold body at h1 ⊢
        rw [List.flatMap_cons, List.length_append, List.length_append, List.map_cons, List.sum_cons, List.length_singleton]
        omega
theorem split_sum (c : UInt8) : ∀ (k : Nat) (s : ByteArray), Lib.countB s (oneB c) = k → ((Lib.splitB (oneB c) 0 k s).map fun x => x.size + 1).sum = s.size + 1
  | 0, s, _ => by rw [Lib.splitB_zero]; simp
  | k + 1, s, hk => by
    rcases Lib.indexB_cases s (oneB c) with hix | ⟨i, hix, hroom⟩
    · rw [Lib.countB_miss s (oneB c) hix] at hk; omega
    · have ih := split_sum c k (s.extract (i + (oneB c).size) s.size) (by have := Lib.countB_hit s (oneB c) i (Nat.le_refl _) hix; omega)
      rw [Lib.splitB_hit (oneB c) 0 k s i hix, List.map_cons, List.sum_cons, ih]
      rw [oneB_size] at hroom ⊢
      rw [ByteArray.size_extract, ByteArray.size_extract]
      omega
theorem line_len {s : ByteArray} {xs : List ByteArray} (h : unwsL (pcs 32 s) = some xs) : (lineL xs).length ≤ s.size + 1 := by
  obtain ⟨h1, h2⟩ := unwsL_len _ _ h
  have h3 := split_sum 32 _ s rfl
  have h4 := pcs_len 32 s
  unfold pcs at h1 h4
  rw [h3] at h1
  unfold lineL
  rw [List.length_append, List.length_dropLast]
  have : 0 < (body xs).length := by
    cases xs with
    | nil => unfold pcs at h2; rw [List.length_nil] at h2; omega
    | cons x r => unfold body; rw [List.flatMap_cons]; simp; omega
  simp; omega
theorem unlL_len : ∀ (ws : List ByteArray) (L : List (List ByteArray)), unlL ws = some L → (encL L).length ≤ (ws.map fun x => x.size + 1).sum
  | [], L, h => by
    have : L = [] := by simpa [unlL] using h.symm
    subst this; exact Nat.le_refl _
  | s :: r, L, h => by
    cases hu : unwsL (pcs 32 s) with
    | none => rw [unlL_none hu] at h; cases h
    | some x =>
      rw [unlL_some hu] at h
      cases hr : unlL r with
      | none => rw [hr] at h; cases h
      | some L' =>
        rw [hr] at h
        have e : L = x :: L' := by simpa using h.symm
        subst e
        have h1 := unlL_len r L' hr
        have h2 := line_len hu
        unfold encL at h1 ⊢
        rw [List.flatMap_cons, List.length_append, List.map_cons, List.sum_cons]
        omega
theorem rdoc_len {S : ByteArray} {L : List (List ByteArray)} (h : rdoc S = some L) : (encL L).length ≤ S.size := by
  unfold rdoc at h
  by_cases h0 : S.data.toList = []
  · rw [if_pos h0] at h
    have e : L = [] := by simpa using h.symm
    subst e; exact Nat.zero_le _
  · rw [if_neg h0] at h
    by_cases h1 : endN S = true
    · rw [if_pos h1] at h
      have h2 := unlL_len _ _ h
      have h3 := split_sum 10 _ (S.extract 0 (S.size - 1)) rfl
      unfold pcs at h2
      rw [h3, ByteArray.size_extract] at h2
      have : 0 < S.size := by rw [Lib.size_eq]; cases hd : S.data.toList with
        | nil => exact absurd hd h0
        | cons _ _ => simp
      omega
    · rw [if_neg h1] at h; cases h
/-- the error of encoding what was read: that of its lines alone -/
theorem rdoc_enc {S : ByteArray} {L : List (List ByteArray)} (h : rdoc S = some L) (hs : S.size ≤ 262144) : (enc L).1 = chk L := by
  have := rdoc_len h
  unfold enc
  split
  · rename_i hk
    rw [if_neg (by omega), hk]
  · rfl
end Go.Proofs.YtdjknefbaclleaaGreatDoor
