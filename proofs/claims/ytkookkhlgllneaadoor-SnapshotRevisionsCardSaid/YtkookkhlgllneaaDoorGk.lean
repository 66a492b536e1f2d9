/-
  Lines of entries, and entries of lines: plain mathematics.
-/
import Derived.Test.YtkookkhlgllneaaDoorGb
import Derived.Test.YtkookkhlgllneaaDoorGi
import Derived.Test.YtkookkhlgllneaaDoorGj
import Derived.OwnWalk
import Derived.Laws.AppendOwn
import Derived.Laws.OwnMore
import Derived.Test.YtkookkhlgllneaaDoorGd
import Derived.WalkKit
import Derived.BigQuiet
import Derived.WalkSmall
import Derived.BigRegion
namespace Go.Proofs.YtkookkhlgllneaaDoor
open Go.RowKit

/-- the line of an entry -/
def lineE (tag : ByteArray) (x : En) : List ByteArray := [tag, x.p, fmtD x.d]
/-- the entry of a line, if it is one -/
def rd1 (tag : ByteArray) : List ByteArray → Option En
  | [t, p, f] => if t = tag then (if ppok f.data.toList = true then some ⟨p, ppby f.data.toList⟩ else none) else none
  | _ => none
def rawL (tag : ByteArray) : List (List ByteArray) → Option (List En)
  | [] => some []
  | l :: r => match rd1 tag l with
    | none => none
    | some x => (rawL tag r).map (x :: ·)
theorem rawL_none {tag : ByteArray} {l : List ByteArray} {r : List (List ByteArray)} (h : rd1 tag l = none) : rawL tag (l :: r) = none := by rw [rawL, h]
theorem rawL_some {tag : ByteArray} {l : List ByteArray} {x : En} {r : List (List ByteArray)} (h : rd1 tag l = some x) : rawL tag (l :: r) = (rawL tag r).map (x :: ·) := by rw [rawL, h]
theorem rd1_len {tag : ByteArray} {l : List ByteArray} (h : l.length ≠ 3) : rd1 tag l = none := by
  match l with
  | [] => rfl
  | [_] => rfl
  | [_, _] => rfl
  | [_, _, _] => exact absurd rfl h
  | _ :: _ :: _ :: _ :: _ => rfl
theorem rd1_tag {tag t p f : ByteArray} (h : t ≠ tag) : rd1 tag [t, p, f] = none := by simp [rd1, h]
theorem rd1_bad {tag p f : ByteArray} (h : ppok f.data.toList = false) : rd1 tag [tag, p, f] = none := by simp [rd1, h]
theorem rd1_good {tag p f : ByteArray} (h : ppok f.data.toList = true) : rd1 tag [tag, p, f] = some ⟨p, ppby f.data.toList⟩ := by simp [rd1, h]
theorem three_of {l : List ByteArray} (h : l.length = 3) : ∃ a b c, l = [a, b, c] := by
  match l, h with
  | [a, b, c], _ => exact ⟨a, b, c, rfl⟩
/-- one element more has been read -/
theorem rawL_step {tag : ByteArray} {L : List (List ByteArray)} {done : List En} {k : Nat} {l : List ByteArray} {x : En} (h : rawL tag L = (rawL tag (L.drop k)).map (done ++ ·)) (hl : L[k]? = some l) (hx : rd1 tag l = some x) : rawL tag L = (rawL tag (L.drop (k + 1))).map ((done ++ [x]) ++ ·) := by
  have hk := (List.getElem?_eq_some_iff.1 hl)
  obtain ⟨hk1, hk2⟩ := hk
  rw [h, List.drop_eq_getElem_cons hk1, hk2, rawL_some hx, Option.map_map]
  congr 1
  funext z
  simp
theorem rawL_stop {tag : ByteArray} {L : List (List ByteArray)} {done : List En} {k : Nat} {l : List ByteArray} (h : rawL tag L = (rawL tag (L.drop k)).map (done ++ ·)) (hl : L[k]? = some l) (hx : rd1 tag l = none) : rawL tag L = none := by
  obtain ⟨hk1, hk2⟩ := List.getElem?_eq_some_iff.1 hl
  rw [h, List.drop_eq_getElem_cons hk1, hk2, rawL_none hx]; rfl
theorem rawL_end {tag : ByteArray} {L : List (List ByteArray)} {done : List En} {k : Nat} (h : rawL tag L = (rawL tag (L.drop k)).map (done ++ ·)) (hk : L.length ≤ k) : rawL tag L = some done := by
  rw [h, List.drop_eq_nil_of_le hk]; simp [rawL]
theorem rawL_length {tag : ByteArray} : ∀ {L : List (List ByteArray)} {l : List En}, rawL tag L = some l → l.length = L.length
  | [], l, h => by cases h; rfl
  | a :: L, l, h => by
    cases hx : rd1 tag a with
    | none => rw [rawL_none hx] at h; cases h
    | some x =>
      rw [rawL_some hx] at h
      cases hr : rawL tag L with
      | none => rw [hr] at h; cases h
      | some m =>
        rw [hr] at h
        have e : x :: m = l := by injection h
        subst e
        have := rawL_length hr
        simp [this]
theorem ppby_byt (l : List UInt8) : D32 (ppby l) := by
  refine ⟨ppby_length' l, ?_⟩
  unfold ppby
  split
  · rename_i h
    have hb := h
    unfold ppok pok at hb
    simp only [Bool.and_eq_true, decide_eq_true_eq] at hb
    exact hbs_byt hb.2.2
  · intro x hx
    rw [List.eq_of_mem_replicate hx]; omega
where ppby_length' (l : List UInt8) : (ppby l).length = 32 := by unfold ppby; split <;> simp [hbs_length]
/-- what Read answers -/
def readL (tag : ByteArray) (L : List (List ByteArray)) : Except Int (List En) := match rawL tag L with
  | none => .error 2
  | some l => if vldE l then .ok l else .error 1
theorem readL_none {tag : ByteArray} {L : List (List ByteArray)} (h : rawL tag L = none) : readL tag L = .error 2 := by unfold readL; rw [h]
theorem readL_some {tag : ByteArray} {L : List (List ByteArray)} {l : List En} (h : rawL tag L = some l) : readL tag L = if vldE l then .ok l else .error 1 := by unfold readL; rw [h]
/-- what was written is read -/
theorem rawL_back (tag : ByteArray) : ∀ (s : List En), (∀ x ∈ s, OkE x) → rawL tag (s.map (lineE tag)) = some s
  | [], _ => rfl
  | x :: s, h => by
    have hx := h x (by simp)
    have hf := ppok_fmt x.d hx.1 hx.2
    have h1 : rd1 tag (lineE tag x) = some x := by
      unfold lineE
      rw [rd1_good hf.1, hf.2]
    rw [List.map_cons, rawL_some h1, rawL_back tag s (fun y hy => h y (by simp [hy]))]
    rfl
theorem readL_back (tag : ByteArray) (s : List En) (h : ∀ x ∈ s, OkE x) : readL tag (s.map (lineE tag)) = if vldE s then .ok s else .error 1 := readL_some (rawL_back tag s h)
theorem fmtD_size (d : List Int) (h : d.length = 32) : (fmtD d).size = 71 := by
  show ([115, 104, 97, 50, 53, 54, 58] ++ hexB d).toArray.size = 71
  rw [List.size_toArray, List.length_append, hexB_length, h]; rfl
end Go.Proofs.YtkookkhlgllneaaDoor

namespace Go.Proofs.YtkookkhlgllneaaDoor
open Go.RowKit

theorem own_shapeL {w : World} {base e size : Nat} {v : Value} {n : Nat} {xs : List Value} (h : w.ownsRow base e size v n xs) : ∃ sp cap, v = .slice sp n cap := by
  obtain ⟨_, ⟨rfl, rfl⟩ | ⟨g, cap, cur, rfl, _⟩⟩ := h
  · exact ⟨none, 0, rfl⟩
  · exact ⟨_, cap, rfl⟩
theorem own_baseL {w : World} {base e size : Nat} {v : Value} {n : Nat} {xs : List Value} (h : w.ownsRow base e size v n xs) : ∀ k, v.ownBlock = some k → base ≤ k := fun k hk => (h.lt k hk).1
theorem own_belowL {w w' : World} {B e size n : Nat} {v : Value} {xs : List Value} (h : w.ownsRow B e size v n xs) (hb : Below w.heap.size w w') : w'.ownsRow B e size v n xs := by
  obtain ⟨h0, h1 | ⟨g, cap, cur, h1, h2, h3, h4⟩⟩ := h
  · exact ⟨h0, .inl h1⟩
  · exact ⟨h0, .inr ⟨g, cap, cur, h1, h2, (hb.block g (Array.getElem?_eq_some_iff.1 h3).1).trans h3, h4⟩⟩
theorem own_monoL {w : World} {base base' : Nat} {e : TypeId} {size : Nat} {v : Value} {n : Nat} {xs : List Value} (h : w.ownsRow base e size v n xs) (hb : base' ≤ base) : w.ownsRow base' e size v n xs :=
  ⟨h.1, h.2.imp id fun ⟨g, cap, cur, h1, h2, h3⟩ => ⟨g, cap, cur, h1, Nat.le_trans hb h2, h3⟩⟩
theorem own_apartL {w : World} {b1 b2 e1 e2 s1 s2 : Nat} {v1 v2 : Value} {n1 n2 : Nat} {x1 x2 : List Value} (h1 : w.ownsRow b1 e1 s1 v1 n1 x1) (h2 : w.ownsRow b2 e2 s2 v2 n2 x2) (hne : e1 ≠ e2) : v1.ownBlock = none ∨ v1.ownBlock ≠ v2.ownBlock := by
  obtain ⟨_, ⟨rfl, _⟩ | ⟨g1, c1, u1, rfl, _, g1h, _⟩⟩ := h1
  · exact .inl rfl
  · obtain ⟨_, ⟨rfl, _⟩ | ⟨g2, c2, u2, rfl, _, g2h, _⟩⟩ := h2
    · exact .inr (by simp [Value.ownBlock])
    · refine .inr (fun e => hne ?_)
      have e' : g1 = g2 := by simpa [Value.ownBlock] using e
      subst e'
      rw [g1h] at g2h
      injection g2h with g2h
      injection g2h
theorem infoLnL : (Tryd.prog.info? 93).map (fun i => (i.zero, i.size, i.bytes)) = some (some (.slice none 0 0), 1, 24) := by kernel_rfl
theorem wpList_append_lnL {P : Program} {w : World} {ops : Array Oper} {rest : List Oper} {o : Oper} {a : Act} {Q : Exit → Act → World → Prop} (hgd : o.guard = none) (s x : Operand) (t e : TypeId)
    (ho : o.op = .call { callee := .builtin .append, args := #[s, x], argTypes := #[t, t] }) (ht : P.underlying t = some (.slice e)) (hi : (P.info? e).map (fun i => (i.zero, i.size, i.bytes)) = some (some (.slice none 0 0), 1, 24))
    (base : Nat) (v : Value) (xs : List Ln) (n : Nat) (hs : a.eval s = v) (hn : n = xs.length) (hown : w.ownsRow base e 1 v n (xs.map Ln.val))
    (g : Nat) (y : Ln) (hx : a.eval x = .slice (some ⟨g, 0, none⟩) 1 1) (hc : w.cell? ⟨g, 0, none⟩ = some y.val)
    (hlen : n ≤ 100000000) (hbase : base ≤ w.heap.size)
    (h : ∀ sp cap w', Hid (w'.ownsRow base e 1 (.slice sp (n + 1) cap) (n + 1) ((xs ++ [y]).map Ln.val)) → w.grownBy w' v.ownBlock → wpList P ops Q rest (a.put o.dst (.slice sp (n + 1) cap)) w') : wpList P ops Q (o :: rest) a w := by
  obtain ⟨i0, hi0, hz0, hz1, hz2⟩ := info_parts hi
  refine wpList_append_own w hgd s x t ho base e i0 _ 1 24 ht hi0 hz0 hz1 hz2 rfl (by decide) v n _ hs hown ⟨g, 0, none⟩ 1 1 [y.val] hx rfl ?_ (by intro u hu; simp at hu; subst hu; rfl) (by unfold maxLen; omega) (by omega) hbase ?_
  · intro j u hj
    have hj0 : j = 0 := by have := (List.getElem?_eq_some_iff.1 hj).1; simp at this; omega
    subst hj0
    simp at hj; subst hj; rw [Addr.add_mid]; exact hc
  · intro v' w' h1 h2 _
    obtain ⟨sp, cap, rfl⟩ := own_shapeL h1
    exact h sp cap w' (by show World.ownsRow _ _ _ _ _ _ _; rw [List.map_append]; exact h1) h2
def LnOwnL (w : World) (base : Nat) (q : Ln) : Prop := w.ownsRow base 9 1 (.slice q.sp q.n q.cap) q.n (q.l.map Value.string)
/-- a line of three words in a block of its own -/
theorem lnOwn_new3 (w : World) (base : Nat) (hb : base ≤ w.heap.size) (a b c : ByteArray) : LnOwnL (w.alloc (.cells #[.string a, .string b, .string c] 9)) base ⟨some ⟨w.heap.size, 0, none⟩, 3, 3, [a, b, c]⟩ :=
  ⟨rfl, .inr ⟨w.heap.size, 3, _, rfl, hb, heap_alloc_new w _, Nat.le_refl _, by unfold maxLen; omega, rfl, rfl⟩⟩
/-- a line that is owned reads as its words -/
theorem LnOwnL.strs {w : World} {base : Nat} {q : Ln} (h : LnOwnL w base q) : StrsIn w w.heap.size q.sp q.n q.l := by
  obtain ⟨hl, h2⟩ := h
  rw [List.length_map, Nat.mul_one] at hl
  refine ⟨hl, fun hn => ?_⟩
  rcases h2 with ⟨e, h0⟩ | ⟨g, cap, cur, e, hb, hg, hc, hm, hs, ht⟩
  · omega
  · injection e with e1 e2 e3
    refine ⟨g, 0, e1, (Array.getElem?_eq_some_iff.1 hg).1, fun j hj => ?_⟩
    rw [cell_of_row w g (0 + j) cur _ _ hg, Nat.zero_add]
    have h5 : (cur.toList.take (q.n * 1))[j]? = some (.string q.l[j]) := by rw [ht]; simp [hj]
    rw [List.getElem?_take, if_pos (by omega)] at h5
    simpa using h5
/-- lines that are owned are lines -/
theorem lines_own {w : World} {base base' : Nat} {sp : Option Addr} {cap : Nat} {ls : List Ln} (h : w.ownsRow base 93 1 (.slice sp ls.length cap) ls.length (ls.map Ln.val)) (hq : ∀ q ∈ ls, LnOwnL w base' q) : LinesIn w w.heap.size sp ls.length ls := by
  obtain ⟨hl, h2⟩ := h
  refine ⟨rfl, fun hn => ?_, fun q hq' => (hq q hq').strs⟩
  rcases h2 with ⟨e, h0⟩ | ⟨g, cap', cur, e, hb, hg, hc, hm, hs, ht⟩
  · omega
  · injection e with e1 e2 e3
    refine ⟨g, 0, e1, (Array.getElem?_eq_some_iff.1 hg).1, fun j hj => ?_⟩
    rw [cell_of_row w g (0 + j) cur _ _ hg, Nat.zero_add]
    have h5 : (cur.toList.take (ls.length * 1))[j]? = some ls[j].val := by rw [ht]; simp [hj]
    rw [List.getElem?_take, if_pos (by omega)] at h5
    simpa using h5
/-- lines that the call has made -/
structure LnsOwn (w : World) (base : Nat) (v : Value) (done : List Ln) : Prop where
  row : w.ownsRow base 93 1 v done.length (done.map Ln.val)
  each : ∀ q ∈ done, LnOwnL w base q
theorem LnsOwn.nil (w : World) (base : Nat) : LnsOwn w base (.slice none 0 0) [] := ⟨World.ownsRow_nil w base _ _, fun q hq => by cases hq⟩
theorem LnsOwn.below {w w' : World} {base : Nat} {v : Value} {done : List Ln} (h : LnsOwn w base v done) (hb : Below w.heap.size w w') : LnsOwn w' base v done :=
  ⟨own_belowL h.row hb, fun q hq => own_belowL (h.each q hq) hb⟩
theorem LnsOwn.lines {w : World} {base : Nat} {sp : Option Addr} {n cap : Nat} {done : List Ln} (h : LnsOwn w base (.slice sp n cap) done) (hn : done.length = n) : LinesIn w w.heap.size sp n done := by
  subst hn
  exact lines_own h.row h.each
theorem slice3 (w : World) (a b c : ByteArray) : (Instr.buildSlice 93 3 #[(0, .string a), (1, .string b), (2, .string c)]).run Tryd.prog w = .ok (.slice (some ⟨w.heap.size, 0, none⟩) 3 3) (w.alloc (.cells #[.string a, .string b, .string c] 9)) := by kernel_rfl
theorem slice1L (w : World) (g : Nat) : (Instr.buildSlice 53 1 #[(0, .slice (some ⟨g, 0, none⟩) 3 3)]).run Tryd.prog w = .ok (.slice (some ⟨w.heap.size, 0, none⟩) 1 1) (w.alloc (.cells #[.slice (some ⟨g, 0, none⟩) 3 3] 93)) := by kernel_rfl
/-- append(own lines, one line), at the operation -/
theorem wp_append_lns {o : Oper} {a : Act} {w : World} {K : Act → World → Prop} {Q : Exit → Act → World → Prop} (s x : Operand)
    (ho : o.op = .call { callee := .builtin .append, args := #[s, x], argTypes := #[53, 53] }) (base : Nat) (v : Value) (done : List Ln) (n : Nat) (hn : n = done.length) (hs : a.eval s = v) (hown : LnsOwn w base v done)
    (g : Nat) (y : Ln) (hx : a.eval x = .slice (some ⟨g, 0, none⟩) 1 1) (hc : w.cell? ⟨g, 0, none⟩ = some y.val) (hy : LnOwnL w base y) (hlen : n ≤ 1000000) (hbase : base ≤ w.heap.size)
    (h : ∀ sp cap w', Hid (LnsOwn w' base (.slice sp (n + 1) cap) (done ++ [y])) → Hid (Below base w w') → Hid (w.grownBy w' v.ownBlock) → K (a.put o.dst (.slice sp (n + 1) cap)) w') : o.wp Tryd.prog a w K Q := by
  subst hn
  obtain ⟨i0, hi0, hz0, hz1, hz2⟩ := info_parts infoLnL
  refine wp_append_own w s x _ ho base _ i0 _ 1 24 Tryd.underlying53 hi0 hz0 hz1 hz2 rfl (by decide) v done.length _ hs hown.row ⟨g, 0, none⟩ 1 1 [y.val] hx rfl ?_ (by intro u hu; simp at hu; subst hu; rfl) (by unfold maxLen; omega) (by omega) hbase ?_
  · intro j u hj
    have hj0 : j = 0 := by have := (List.getElem?_eq_some_iff.1 hj).1; simp at this; omega
    subst hj0
    simp at hj; subst hj; rw [Addr.add_mid]; exact hc
  · intro v' w' h1 h2 _
    obtain ⟨sp, cap, rfl⟩ := own_shapeL h1
    refine h sp cap w' ⟨by rw [List.length_append, List.map_append]; exact h1, fun q hq => ?_⟩ ((Below.refl base w).grown h2 hbase (own_baseL hown.row)) h2
    have hq1 : LnOwnL w base q := by
      rcases List.mem_append.1 hq with h | h
      · exact hown.each q h
      · rw [List.mem_singleton.1 h]; exact hy
    exact World.ownsRow.kept hq1 h2 (own_apartL hq1 hown.row (by decide))
end Go.Proofs.YtkookkhlgllneaaDoor

namespace Go.Proofs.YtkookkhlgllneaaDoor
open Go.RowKit

theorem EnB.keptL {w w' : World} {b base n : Nat} {x : En} {v : Value} {xs : List Value} (h : EnB w b x) (ho : w.ownsRow base 93 1 v n xs) (hg : w.grownBy w' v.ownBlock) : EnB w' b x := by
  refine (hg.block b (Array.getElem?_eq_some_iff.1 h).1 (fun e => ?_)).trans h
  obtain ⟨_, ⟨rfl, _⟩ | ⟨g, c, u, rfl, _, gh, _⟩⟩ := ho
  · simp [Value.ownBlock] at e
  · have e' : b = g := by simpa [Value.ownBlock] using e
    subst e'
    unfold EnB at h
    rw [gh] at h
    injection h with h
    injection h with _ h _
    exact absurd h (by decide)
set_option maxRecDepth 100000 in
set_option maxHeartbeats 4000000 in
theorem Lines_any (tag : ByteArray) (sp : Option Addr) (n cap : Nat) (l : List En) (w : World) (hl : EnsIn w w.heap.size sp n cap l) (hn : n ≤ 100000) :
    Calls Tryd.prog 36 #[.string tag, .slice sp n cap] w fun e w' => ∃ sp' cap' ls, e = .returned (.slice sp' n cap') ∧ ls.length = n ∧ wordsOf ls = l.map (lineE tag) ∧ LnsOwn w' w.heap.size (.slice sp' n cap') ls ∧ Below w.heap.size w w' := by
  have HL := Lib.hid hl
  clear hl
  obtain ⟨i0, hi0, hz0, hz1, hz2⟩ := info_parts infoLnL
  go_enter Tryd.func36, Tryd.ntmps36
  go_wp2_with (refine wpList_make_own w rfl _ _ 53 rfl w.heap.size 93 i0 _ 1 Tryd.underlying53 hi0 hz0 hz1 .i64 .i64 (n : Int) n rfl rfl rfl (by rw [hz2]; omega) (by unfold maxLen; omega) (Nat.le_refl _) ?_; intro w1 hown1 hg1)
  have HB1 := Lib.hid ((Below.refl w.heap.size w).grown hg1 (Nat.le_refl _) (fun k e => by cases e))
  have HO1 := Lib.hid hown1
  clear hg1 hown1 hi0 hz0 hz1 hz2
  go_loopw [5, 13] (fun v i wr => ∃ (k : Nat) (done : List Ln) (sp' : Option Addr) (cap' : Nat), k ≤ n ∧ i = .int .i64 k ∧ v = .slice sp' k cap' ∧ Hid (k = done.length) ∧ Hid (wordsOf done = (l.take k).map (lineE tag)) ∧ Hid (LnsOwn wr w.heap.size (.slice sp' k cap') done) ∧ Hid (Below w.heap.size w wr)) (fun _ i _ => n - (intOf i).toNat)
  case atStart => exact ⟨0, [], _, _, Nat.zero_le _, rfl, rfl, rfl, rfl, ⟨HO1.out, fun q hq => by cases hq⟩, HB1.out⟩
  case round =>
    clear HO1 HB1
    obtain ⟨k, done, sp', cap', hk, rfl, rfl, HKL, HWD, hown, hbe⟩ := hrel
    have hbs := hbe.out.size
    by_cases hlt : k < n
    · have hd : decide ((k : Int) < (n : Int)) = true := by simp; omega
      obtain ⟨b, off, rfl, hbB, hcap, hr⟩ := HL.out.cells (by omega)
      have hkl : k < l.length := by rw [HL.out.len]; exact hlt
      obtain ⟨x, hx⟩ : ∃ x, l[k]? = some x := ⟨l[k], List.getElem?_eq_getElem hkl⟩
      have hok := HL.out.ok x (List.mem_of_getElem? hx)
      have HOK := Lib.hid hok
      have HFM : Hid (∀ W, Calls Tryd.prog 76 #[.agg (x.d.map (Value.int .u8)).toArray] W fun e w' => e = .returned (.string (fmtD x.d)) ∧ Below W.heap.size W w') := fun W => Format_any x.d W hok.1 hok.2
      have HT : Hid (∀ y : Ln, y.l = [tag, x.p, fmtD x.d] → wordsOf (done ++ [y]) = (l.take (k + 1)).map (lineE tag)) := by
        intro y hy
        rw [List.take_add_one, hx, List.map_append, ← HWD.out]
        simp [wordsOf, hy, lineE]
      have p1 : (0 : Int) ≤ (k : Int) := by omega
      have p2 : (k : Int) < (n : Int) := by omega
      have HR := Lib.hid (range_belowS (hr k x hx) hbe.out hbB)
      have HI := Lib.hid (info_e hok)
      have HS : Hid (33 = (enL x).toArray.size) := by show _ = _; rw [List.size_toArray, enL_length hok]
      clear hr hx hkl hok
      go_wp2_with (first
        | (refine wpList_load_mid rfl 70 _ rfl b (off + k * 33) rfl _ _ HR.out Tryd.underlying70 rfl HI.out ?_)
        | (refine wpList_store_row rfl 70 _ _ rfl wr.heap.size _ rfl rfl 70 _ (heap_alloc_new wr _) (by simpa using HI.out) (by simpa using HS.out) (Array.all_eq_true_iff_forall_mem.2 (by simpa using enL_one x)) ?_; rw [setRow_new]; generalize hw2 : World.alloc wr _ = w2; have he2 : EnB w2 wr.heap.size x := (by rw [← hw2]; exact heap_alloc_new _ _); have hb2 : Below wr.heap.size wr w2 := (by rw [← hw2]; exact (Below.refl _ _).alloc (Nat.le_refl _) _); have HE2 := Lib.hid he2; have HB2 := Lib.hid (hbe.out.trans (hb2.mono hbs)); have HO2 := Lib.hid (hown.out.below hb2); clear hw2 he2 hb2))
      refine wp_region_held_drew (S := fun w' => EnB w' wr.heap.size x) (by kernel_rfl) HE2.out (fun hHeld => ?_)
      refine wpAnyH_take (i := 0) (oi := _) (v := ?v0n1) rfl (by kernel_rfl) (by kernel_rfl) (by kernel_rfl) (fun _ _ _ h => h) (Or.inl ⟨by rfl, ?hy0n1⟩) (by assumption) ?rest0n1
      case hy0n1 =>
        intro w' hSw
        go_simp
        try with_reducible rfl
      try simp only [Act.put, List.getElem_toArray, List.getElem_cons_succ, List.getElem_cons_zero, List.setIfInBounds_toArray, List.set_cons_zero, List.set_cons_succ]
      refine wpAnyH_take (i := 1) (oi := _) (v := ?v1n2) rfl (by kernel_rfl) (by kernel_rfl) (by kernel_rfl) (fun _ _ _ h => h) (Or.inl ⟨by rfl, ?hy1n2⟩) (by assumption) ?rest1n2
      case hy1n2 =>
        intro w' hSw
        go_simp
        try with_reducible rfl
      try simp only [Act.put, List.getElem_toArray, List.getElem_cons_succ, List.getElem_cons_zero, List.setIfInBounds_toArray, List.set_cons_zero, List.set_cons_succ]
      refine wpAnyH_take (i := 2) (oi := _) (v := ?v2n3) rfl (by kernel_rfl) (by kernel_rfl) (by kernel_rfl) (fun _ _ _ h => h) (Or.inl ⟨by rfl, ?hy2n3⟩) (by assumption) ?rest2n3
      case hy2n3 =>
        intro w' hSw
        go_simp
        try with_reducible rfl
      try simp only [Act.put, List.getElem_toArray, List.getElem_cons_succ, List.getElem_cons_zero, List.setIfInBounds_toArray, List.set_cons_zero, List.set_cons_succ]
      refine wpAnyH_take (i := 3) (oi := _) (v := ?v3n4) rfl (by kernel_rfl) (by kernel_rfl) (by kernel_rfl) (fun _ _ _ h => h) (Or.inl ⟨by rfl, ?hy3n4⟩) (by assumption) ?rest3n4
      case hy3n4 =>
        intro w' hSw
        have h1 := hSw.p
        go_simp
        try with_reducible rfl
      try simp only [Act.put, List.getElem_toArray, List.getElem_cons_succ, List.getElem_cons_zero, List.setIfInBounds_toArray, List.set_cons_zero, List.set_cons_succ]
      refine wpAnyH_take (i := 4) (oi := _) (v := ?v4n5) rfl (by kernel_rfl) (by kernel_rfl) (by kernel_rfl) (fun _ _ _ h => h) (Or.inl ⟨by rfl, ?hy4n5⟩) (by assumption) ?rest4n5
      case hy4n5 =>
        intro w' hSw
        go_simp
        try with_reducible rfl
      try simp only [Act.put, List.getElem_toArray, List.getElem_cons_succ, List.getElem_cons_zero, List.setIfInBounds_toArray, List.set_cons_zero, List.set_cons_succ]
      refine' wpAnyH_take (i := 5) (oi := _) (v := _) rfl (by kernel_rfl) (by kernel_rfl) (by kernel_rfl) (fun _ _ _ h => h) (yieldsIf_load_mid (by rfl) _ _ rfl _ _ rfl _ _ ?hS5n6 Tryd.underlying28 rfl (info_d HOK.out)) (by assumption) ?rest5n6
      case hS5n6 =>
        intro w' hSw
        exact hSw.d
      try simp only [Act.put, List.getElem_toArray, List.getElem_cons_succ, List.getElem_cons_zero, List.setIfInBounds_toArray, List.set_cons_zero, List.set_cons_succ]
      refine wpAnyH_ready (rs := [6]) (by kernel_rfl) (by simp) (AllReadyH.cons (o := _) rfl (fun K hK => ?_) AllReadyH.nil)
      go_simp
      with_reducible refine (HFM.out _).mono ?_
      rintro e w3 ⟨rfl, hb3⟩
      go_wp2_with fail
      refine hK.out _ _ (HE2.out.below (((Below.refl _ w2).drew).trans hb3) (Array.getElem?_eq_some_iff.1 HE2.out).1) (fun hHeld => ?_)
      clear hK K
      try simp only [Act.put, List.getElem_toArray, List.getElem_cons_succ, List.getElem_cons_zero, List.setIfInBounds_toArray, List.set_cons_zero, List.set_cons_succ]
      have HB3 := Lib.hid (HB2.out.trans ((((Below.refl _ w2).drew).trans hb3).mono HB2.out.size))
      have HO3 := Lib.hid (HO2.out.below (((Below.refl _ w2).drew).trans hb3))
      have HS3 := Lib.hid (HE2.out.below (((Below.refl _ w2).drew).trans hb3) (Array.getElem?_eq_some_iff.1 HE2.out).1)
      clear hb3
      refine wpAnyH_ready (rs := [7]) (by kernel_rfl) (by simp) (AllReadyH.cons (o := _) rfl (fun K hK => ?_) AllReadyH.nil)
      rw [if_pos (by rfl)]
      refine wp_slice_eqS 93 3 [(0, .tmp 18), (1, .tmp 20), (2, .tmp 23)] rfl [(0, .string tag), (1, .string x.p), (2, .string (fmtD x.d))] rfl _ _ (slice3 _ tag x.p (fmtD x.d)) ?_
      generalize hw4 : World.alloc w3 _ = w4
      have hq4 : LnOwnL w4 w.heap.size ⟨some ⟨w3.heap.size, 0, none⟩, 3, 3, [tag, x.p, fmtD x.d]⟩ := by rw [← hw4]; exact lnOwn_new3 w3 _ (by have := HB3.out.size; omega) _ _ _
      have hb4 : Below w3.heap.size w3 w4 := by rw [← hw4]; exact (Below.refl _ _).alloc (Nat.le_refl _) _
      have HQ4 := Lib.hid hq4
      have HB4 := Lib.hid (HB3.out.trans (hb4.mono HB3.out.size))
      have HO4 := Lib.hid (HO3.out.below hb4)
      have HS4 := Lib.hid (HS3.out.below hb4 (Array.getElem?_eq_some_iff.1 HS3.out).1)
      clear hw4 hq4 hb4
      refine hK.out _ _ HS4.out (fun hHeld => ?_)
      clear hK K
      try simp only [Act.put, List.getElem_toArray, List.getElem_cons_succ, List.getElem_cons_zero, List.setIfInBounds_toArray, List.set_cons_zero, List.set_cons_succ]
      refine wpAnyH_ready (rs := [8]) (by kernel_rfl) (by simp) (AllReadyH.cons (o := _) rfl (fun K hK => ?_) AllReadyH.nil)
      rw [if_pos (by rfl)]
      refine wp_slice_eqS 53 1 [(0, .tmp 24)] rfl [(0, .slice (some ⟨w3.heap.size, 0, none⟩) 3 3)] rfl _ _ (slice1L _ _) ?_
      generalize hw5 : World.alloc w4 _ = w5
      have hc5 : w5.cell? ⟨w4.heap.size, 0, none⟩ = some (Ln.val ⟨some ⟨w3.heap.size, 0, none⟩, 3, 3, [tag, x.p, fmtD x.d]⟩) := by rw [← hw5, cell_of_row _ w4.heap.size 0 _ _ _ (heap_alloc_new w4 _)]; rfl
      have hb5 : Below w4.heap.size w4 w5 := by rw [← hw5]; exact (Below.refl _ _).alloc (Nat.le_refl _) _
      have HC5 := Lib.hid hc5
      have HB5 := Lib.hid (HB4.out.trans (hb5.mono HB4.out.size))
      have HO5 := Lib.hid (HO4.out.below hb5)
      have HQ5 : Hid (LnOwnL w5 w.heap.size ⟨some ⟨w3.heap.size, 0, none⟩, 3, 3, [tag, x.p, fmtD x.d]⟩) := own_belowL HQ4.out hb5
      have hs5 := HB5.out.size
      have HS5 := Lib.hid (HS4.out.below hb5 (Array.getElem?_eq_some_iff.1 HS4.out).1)
      clear hw5 hc5 hb5
      refine hK.out _ _ HS5.out (fun hHeld => ?_)
      clear hK K
      try simp only [Act.put, List.getElem_toArray, List.getElem_cons_succ, List.getElem_cons_zero, List.setIfInBounds_toArray, List.set_cons_zero, List.set_cons_succ]
      refine wpAnyH_ready (rs := [9]) (by kernel_rfl) (by simp) (AllReadyH.cons (o := _) rfl (fun K hK => ?_) AllReadyH.nil)
      rw [if_pos (by rfl)]
      refine wp_append_lns (.tmp 17) (.tmp 25) rfl w.heap.size _ done k HKL.out rfl HO5.out w4.heap.size ⟨some ⟨w3.heap.size, 0, none⟩, 3, 3, [tag, x.p, fmtD x.d]⟩ rfl HC5.out HQ5.out (by omega) (by omega) ?_
      intro sp6 cap6 w6 HO6 HB6 HG6
      have HB7 := Lib.hid (HB5.out.trans HB6.out)
      have HS6 := Lib.hid (HS5.out.keptL HO5.out.row HG6.out)
      refine hK.out _ _ HS6.out (fun hHeld => ?_)
      clear hK K
      try simp only [Act.put, List.getElem_toArray, List.getElem_cons_succ, List.getElem_cons_zero, List.setIfInBounds_toArray, List.set_cons_zero, List.set_cons_succ]
      refine wpAnyH_take (i := 10) (oi := _) (v := ?v10n7) rfl (by kernel_rfl) (by kernel_rfl) (by kernel_rfl) (fun _ _ _ h => h) (Or.inl ⟨by rfl, ?hy10n7⟩) (by assumption) ?rest10n7
      case hy10n7 =>
        intro w' hSw
        go_simp
        try with_reducible rfl
      try simp only [Act.put, List.getElem_toArray, List.getElem_cons_succ, List.getElem_cons_zero, List.setIfInBounds_toArray, List.set_cons_zero, List.set_cons_succ]
      refine wpAnyH_done (by kernel_rfl) ?_ _
      clear hHeld
      go_wp2_with fail
      go_roundw
      case rel => exact ⟨k + 1, done ++ [⟨some ⟨w3.heap.size, 0, none⟩, 3, 3, [tag, x.p, fmtD x.d]⟩], sp6, cap6, by omega, by go_num, rfl, by show _ = _; rw [List.length_append, ← HKL.out]; rfl, HT.out _ rfl, HO6, HB7⟩
      case measure => simp [intOf]; omega
    · obtain rfl : k = n := by omega
      have hd : decide ((k : Int) < (k : Int)) = false := by simp
      have HTT : Hid ((l.take k).map (lineE tag) = l.map (lineE tag)) := by show _ = _; rw [List.take_of_length_le (by rw [HL.out.len]; exact Nat.le_refl _)]
      go_wp2_with fail
      go_ret
      exact ⟨sp', cap', done, rfl, HKL.out.symm, by rw [← HTT.out]; exact HWD.out, hown.out, hbe.out⟩
end Go.Proofs.YtkookkhlgllneaaDoor

namespace Go.Proofs.YtkookkhlgllneaaDoor
open Go.RowKit

set_option maxRecDepth 100000 in
set_option maxHeartbeats 4000000 in
theorem refLines_any (tag : ByteArray) (sp : Option Addr) (n cap : Nat) (l : List En) (w : World) (hl : EnsIn w w.heap.size sp n cap l) (hn : n ≤ 100000) :
    Calls Tryd.prog 37 #[.string tag, .slice sp n cap] w fun e w' => ∃ sp' cap' ls, e = .returned (.slice sp' n cap') ∧ ls.length = n ∧ wordsOf ls = l.map (lineE tag) ∧ LnsOwn w' w.heap.size (.slice sp' n cap') ls ∧ Below w.heap.size w w' := by
  have HL := Lib.hid hl
  clear hl
  go_enter Tryd.func37, Tryd.ntmps37
  go_wp2_with fail
  go_loopw [5, 6] (fun v i wr => ∃ (k : Nat) (done : List Ln) (sp' : Option Addr) (cap' : Nat), k ≤ n ∧ i = .int .i64 k ∧ v = .slice sp' k cap' ∧ Hid (k = done.length) ∧ Hid (wordsOf done = (l.take k).map (lineE tag)) ∧ Hid (LnsOwn wr w.heap.size (.slice sp' k cap') done) ∧ Hid (Below w.heap.size w wr)) (fun _ i _ => n - (intOf i).toNat)
  case atStart => exact ⟨0, [], _, _, Nat.zero_le _, rfl, rfl, rfl, rfl, LnsOwn.nil _ _, Below.refl _ _⟩
  case round =>
    obtain ⟨k, done, sp', cap', hk, rfl, rfl, HKL, HWD, hown, hbe⟩ := hrel
    have hbs := hbe.out.size
    by_cases hlt : k < n
    · have hd : decide ((k : Int) < (n : Int)) = true := by simp; omega
      obtain ⟨b, off, rfl, hbB, hcap, hr⟩ := HL.out.cells (by omega)
      have hkl : k < l.length := by rw [HL.out.len]; exact hlt
      obtain ⟨x, hx⟩ : ∃ x, l[k]? = some x := ⟨l[k], List.getElem?_eq_getElem hkl⟩
      have hok := HL.out.ok x (List.mem_of_getElem? hx)
      have HOK := Lib.hid hok
      have HFM : Hid (∀ W, Calls Tryd.prog 77 #[.agg (x.d.map (Value.int .u8)).toArray] W fun e w' => e = .returned (.string (fmtD x.d)) ∧ Below W.heap.size W w') := fun W => refFormat_any x.d W hok.1 hok.2
      have HT : Hid (∀ y : Ln, y.l = [tag, x.p, fmtD x.d] → wordsOf (done ++ [y]) = (l.take (k + 1)).map (lineE tag)) := by
        intro y hy
        rw [List.take_add_one, hx, List.map_append, ← HWD.out]
        simp [wordsOf, hy, lineE]
      have p1 : (0 : Int) ≤ (k : Int) := by omega
      have p2 : (k : Int) < (n : Int) := by omega
      have HRX := Lib.hid (fun W (hb : Below w.heap.size w W) => range_belowS (hr k x hx) hb hbB)
      have q1 : IntKind.i64.wrap (k : Int) = (k : Int) := IntWalk.i64_in _ (by omega)
      clear hr hx hkl hok
      go_wp2_with fail
      refine wp_region_held_drew (S := fun w' => w'.rangeAt b (off + k * 33) (enL x)) (by kernel_rfl) (HRX.out _ hbe.out.drew) (fun hHeld => ?_)
      refine wpAnyH_take (i := 0) (oi := _) (v := ?v0n8) rfl (by kernel_rfl) (by kernel_rfl) (by kernel_rfl) (fun _ _ _ h => h) (Or.inl ⟨by rfl, ?hy0n8⟩) (by assumption) ?rest0n8
      case hy0n8 =>
        intro w' hSw
        go_simp
        try with_reducible rfl
      try simp only [Act.put, List.getElem_toArray, List.getElem_cons_succ, List.getElem_cons_zero, List.setIfInBounds_toArray, List.set_cons_zero, List.set_cons_succ]
      refine wpAnyH_take (i := 1) (oi := _) (v := ?v1n9) rfl (by kernel_rfl) (by kernel_rfl) (by kernel_rfl) (fun _ _ _ h => h) (Or.inl ⟨by rfl, ?hy1n9⟩) (by assumption) ?rest1n9
      case hy1n9 =>
        intro w' hSw
        go_simp
        try with_reducible rfl
      try simp only [Act.put, List.getElem_toArray, List.getElem_cons_succ, List.getElem_cons_zero, List.setIfInBounds_toArray, List.set_cons_zero, List.set_cons_succ]
      refine wpAnyH_take (i := 2) (oi := _) (v := ?v2n10) rfl (by kernel_rfl) (by kernel_rfl) (by kernel_rfl) (fun _ _ _ h => h) (Or.inl ⟨by rfl, ?hy2n10⟩) (by assumption) ?rest2n10
      case hy2n10 =>
        intro w' hSw
        go_simp
        try with_reducible rfl
      try simp only [Act.put, List.getElem_toArray, List.getElem_cons_succ, List.getElem_cons_zero, List.setIfInBounds_toArray, List.set_cons_zero, List.set_cons_succ]
      refine wpAnyH_take (i := 3) (oi := _) (v := ?v3n11) rfl (by kernel_rfl) (by kernel_rfl) (by kernel_rfl) (fun _ _ _ h => h) (Or.inl ⟨by rfl, ?hy3n11⟩) (by assumption) ?rest3n11
      case hy3n11 =>
        intro w' hSw
        go_simp
        try with_reducible rfl
      try simp only [Act.put, List.getElem_toArray, List.getElem_cons_succ, List.getElem_cons_zero, List.setIfInBounds_toArray, List.set_cons_zero, List.set_cons_succ]
      refine wpAnyH_take (i := 4) (oi := _) (v := ?v4n12) rfl (by kernel_rfl) (by kernel_rfl) (by kernel_rfl) (fun _ _ _ h => h) (Or.inl ⟨by rfl, ?hy4n12⟩) (by assumption) ?rest4n12
      case hy4n12 =>
        intro w' hSw
        go_simp
        try with_reducible rfl
      try simp only [Act.put, List.getElem_toArray, List.getElem_cons_succ, List.getElem_cons_zero, List.setIfInBounds_toArray, List.set_cons_zero, List.set_cons_succ]
      refine wpAnyH_take (i := 5) (oi := _) (v := ?v5n13) rfl (by kernel_rfl) (by kernel_rfl) (by kernel_rfl) (fun _ _ _ h => h) (Or.inl ⟨by rfl, ?hy5n13⟩) (by assumption) ?rest5n13
      case hy5n13 =>
        intro w' hSw
        go_simp
        try with_reducible rfl
      try simp only [Act.put, List.getElem_toArray, List.getElem_cons_succ, List.getElem_cons_zero, List.setIfInBounds_toArray, List.set_cons_zero, List.set_cons_succ]
      refine wpAnyH_take (i := 6) (oi := _) (v := ?v6n14) rfl (by kernel_rfl) (by kernel_rfl) (by kernel_rfl) (fun _ _ _ h => h) (Or.inl ⟨by rfl, ?hy6n14⟩) (by assumption) ?rest6n14
      case hy6n14 =>
        intro w' hSw
        have h1 := rngE_p hSw
        go_simp
        try with_reducible rfl
      try simp only [Act.put, List.getElem_toArray, List.getElem_cons_succ, List.getElem_cons_zero, List.setIfInBounds_toArray, List.set_cons_zero, List.set_cons_succ]
      refine wpAnyH_take (i := 7) (oi := _) (v := ?v7n15) rfl (by kernel_rfl) (by kernel_rfl) (by kernel_rfl) (fun _ _ _ h => h) (Or.inl ⟨by rfl, ?hy7n15⟩) (by assumption) ?rest7n15
      case hy7n15 =>
        intro w' hSw
        go_simp
        try with_reducible rfl
      try simp only [Act.put, List.getElem_toArray, List.getElem_cons_succ, List.getElem_cons_zero, List.setIfInBounds_toArray, List.set_cons_zero, List.set_cons_succ]
      refine wpAnyH_take (i := 8) (oi := _) (v := ?v8n16) rfl (by kernel_rfl) (by kernel_rfl) (by kernel_rfl) (fun _ _ _ h => h) (Or.inl ⟨by rfl, ?hy8n16⟩) (by assumption) ?rest8n16
      case hy8n16 =>
        intro w' hSw
        go_simp
        try with_reducible rfl
      try simp only [Act.put, List.getElem_toArray, List.getElem_cons_succ, List.getElem_cons_zero, List.setIfInBounds_toArray, List.set_cons_zero, List.set_cons_succ]
      refine wpAnyH_take (i := 9) (oi := _) (v := ?v9n17) rfl (by kernel_rfl) (by kernel_rfl) (by kernel_rfl) (fun _ _ _ h => h) (Or.inl ⟨by rfl, ?hy9n17⟩) (by assumption) ?rest9n17
      case hy9n17 =>
        intro w' hSw
        go_simp
        try with_reducible rfl
      try simp only [Act.put, List.getElem_toArray, List.getElem_cons_succ, List.getElem_cons_zero, List.setIfInBounds_toArray, List.set_cons_zero, List.set_cons_succ]
      refine wpAnyH_take (i := 10) (oi := _) (v := ?v10n18) rfl (by kernel_rfl) (by kernel_rfl) (by kernel_rfl) (fun _ _ _ h => h) (Or.inl ⟨by rfl, ?hy10n18⟩) (by assumption) ?rest10n18
      case hy10n18 =>
        intro w' hSw
        go_simp
        try with_reducible rfl
      try simp only [Act.put, List.getElem_toArray, List.getElem_cons_succ, List.getElem_cons_zero, List.setIfInBounds_toArray, List.set_cons_zero, List.set_cons_succ]
      refine' wpAnyH_take (i := 11) (oi := _) (v := _) rfl (by kernel_rfl) (by kernel_rfl) (by kernel_rfl) (fun _ _ _ h => h) (yieldsIf_load_mid (by rfl) _ _ rfl _ _ rfl _ _ ?hS11n19 Tryd.underlying28 rfl (info_d HOK.out)) (by assumption) ?rest11n19
      case hS11n19 =>
        intro w' hSw
        exact (rngE_d hSw)
      try simp only [Act.put, List.getElem_toArray, List.getElem_cons_succ, List.getElem_cons_zero, List.setIfInBounds_toArray, List.set_cons_zero, List.set_cons_succ]
      refine wpAnyH_ready (rs := [12]) (by kernel_rfl) (by simp) (AllReadyH.cons (o := _) rfl (fun K hK => ?_) AllReadyH.nil)
      go_simp
      with_reducible refine (HFM.out _).mono ?_
      rintro e w3 ⟨rfl, hb3⟩
      go_wp2_with fail
      refine hK.out _ _ (HRX.out _ (hbe.out.trans ((((Below.refl _ wr).drew).trans hb3).mono hbs))) (fun hHeld => ?_)
      clear hK K
      try simp only [Act.put, List.getElem_toArray, List.getElem_cons_succ, List.getElem_cons_zero, List.setIfInBounds_toArray, List.set_cons_zero, List.set_cons_succ]
      have HB3 := Lib.hid (hbe.out.trans ((((Below.refl _ wr).drew).trans hb3).mono hbs))
      have HO3 := Lib.hid (hown.out.below (((Below.refl _ wr).drew).trans hb3))
      clear hb3
      refine wpAnyH_ready (rs := [13]) (by kernel_rfl) (by simp) (AllReadyH.cons (o := _) rfl (fun K hK => ?_) AllReadyH.nil)
      rw [if_pos (by rfl)]
      refine wp_slice_eqS 93 3 [(0, .tmp 14), (1, .tmp 19), (2, .tmp 25)] rfl [(0, .string tag), (1, .string x.p), (2, .string (fmtD x.d))] rfl _ _ (slice3 _ tag x.p (fmtD x.d)) ?_
      generalize hw4 : World.alloc w3 _ = w4
      have hq4 : LnOwnL w4 w.heap.size ⟨some ⟨w3.heap.size, 0, none⟩, 3, 3, [tag, x.p, fmtD x.d]⟩ := by rw [← hw4]; exact lnOwn_new3 w3 _ (by have := HB3.out.size; omega) _ _ _
      have hb4 : Below w3.heap.size w3 w4 := by rw [← hw4]; exact (Below.refl _ _).alloc (Nat.le_refl _) _
      have HQ4 := Lib.hid hq4
      have HB4 := Lib.hid (HB3.out.trans (hb4.mono HB3.out.size))
      have HO4 := Lib.hid (HO3.out.below hb4)
      clear hw4 hq4 hb4
      refine hK.out _ _ (HRX.out _ HB4.out) (fun hHeld => ?_)
      clear hK K
      try simp only [Act.put, List.getElem_toArray, List.getElem_cons_succ, List.getElem_cons_zero, List.setIfInBounds_toArray, List.set_cons_zero, List.set_cons_succ]
      refine wpAnyH_ready (rs := [14]) (by kernel_rfl) (by simp) (AllReadyH.cons (o := _) rfl (fun K hK => ?_) AllReadyH.nil)
      rw [if_pos (by rfl)]
      refine wp_slice_eqS 53 1 [(0, .tmp 26)] rfl [(0, .slice (some ⟨w3.heap.size, 0, none⟩) 3 3)] rfl _ _ (slice1L _ _) ?_
      generalize hw5 : World.alloc w4 _ = w5
      have hc5 : w5.cell? ⟨w4.heap.size, 0, none⟩ = some (Ln.val ⟨some ⟨w3.heap.size, 0, none⟩, 3, 3, [tag, x.p, fmtD x.d]⟩) := by rw [← hw5, cell_of_row _ w4.heap.size 0 _ _ _ (heap_alloc_new w4 _)]; rfl
      have hb5 : Below w4.heap.size w4 w5 := by rw [← hw5]; exact (Below.refl _ _).alloc (Nat.le_refl _) _
      have HC5 := Lib.hid hc5
      have HB5 := Lib.hid (HB4.out.trans (hb5.mono HB4.out.size))
      have HO5 := Lib.hid (HO4.out.below hb5)
      have HQ5 : Hid (LnOwnL w5 w.heap.size ⟨some ⟨w3.heap.size, 0, none⟩, 3, 3, [tag, x.p, fmtD x.d]⟩) := own_belowL HQ4.out hb5
      have hs5 := HB5.out.size
      clear hw5 hc5 hb5
      refine hK.out _ _ (HRX.out _ HB5.out) (fun hHeld => ?_)
      clear hK K
      try simp only [Act.put, List.getElem_toArray, List.getElem_cons_succ, List.getElem_cons_zero, List.setIfInBounds_toArray, List.set_cons_zero, List.set_cons_succ]
      refine wpAnyH_ready (rs := [15]) (by kernel_rfl) (by simp) (AllReadyH.cons (o := _) rfl (fun K hK => ?_) AllReadyH.nil)
      rw [if_pos (by rfl)]
      refine wp_append_lns (.tmp 13) (.tmp 27) rfl w.heap.size _ done k HKL.out rfl HO5.out w4.heap.size ⟨some ⟨w3.heap.size, 0, none⟩, 3, 3, [tag, x.p, fmtD x.d]⟩ rfl HC5.out HQ5.out (by omega) (by omega) ?_
      intro sp6 cap6 w6 HO6 HB6 HG6
      have HB7 := Lib.hid (HB5.out.trans HB6.out)
      refine hK.out _ _ (HRX.out _ HB7.out) (fun hHeld => ?_)
      clear hK K
      try simp only [Act.put, List.getElem_toArray, List.getElem_cons_succ, List.getElem_cons_zero, List.setIfInBounds_toArray, List.set_cons_zero, List.set_cons_succ]
      refine wpAnyH_take (i := 16) (oi := _) (v := ?v16n20) rfl (by kernel_rfl) (by kernel_rfl) (by kernel_rfl) (fun _ _ _ h => h) (Or.inl ⟨by rfl, ?hy16n20⟩) (by assumption) ?rest16n20
      case hy16n20 =>
        intro w' hSw
        go_simp
        try with_reducible rfl
      try simp only [Act.put, List.getElem_toArray, List.getElem_cons_succ, List.getElem_cons_zero, List.setIfInBounds_toArray, List.set_cons_zero, List.set_cons_succ]
      refine wpAnyH_done (by kernel_rfl) ?_ _
      clear hHeld
      go_wp2_with fail
      go_roundw
      case rel => exact ⟨k + 1, done ++ [⟨some ⟨w3.heap.size, 0, none⟩, 3, 3, [tag, x.p, fmtD x.d]⟩], sp6, cap6, by omega, by go_num, rfl, by show _ = _; rw [List.length_append, ← HKL.out]; rfl, HT.out _ rfl, HO6, HB7⟩
      case measure => simp [intOf]; omega
    · obtain rfl : k = n := by omega
      have hd : decide ((k : Int) < (k : Int)) = false := by simp
      have HTT : Hid ((l.take k).map (lineE tag) = l.map (lineE tag)) := by show _ = _; rw [List.take_of_length_le (by rw [HL.out.len]; exact Nat.le_refl _)]
      go_wp2_with fail
      go_ret
      exact ⟨sp', cap', done, rfl, HKL.out.symm, by rw [← HTT.out]; exact HWD.out, hown.out, hbe.out⟩
end Go.Proofs.YtkookkhlgllneaaDoor

namespace Go.Proofs.YtkookkhlgllneaaDoor
open Go.RowKit

/-- a digest in a block of its own -/
def DgB (w : World) (b : Nat) (d : List Int) : Prop := w.heap[b]? = some (.cells (d.map (Value.int .u8)).toArray 28 (0, 0))
theorem DgB.all {w : World} {b : Nat} {d : List Int} (h : DgB w b d) : w.rangeAt b 0 (d.map (Value.int .u8)) := range_row (pre := []) (post := []) h (by simp) rfl
theorem DgB.belowL {w w' : World} {b : Nat} {d : List Int} (h : DgB w b d) (hb : Below w.heap.size w w') : DgB w' b d := (hb.block b (Array.getElem?_eq_some_iff.1 h).1).trans h
theorem DgB.keptL {w w' : World} {b base n sz : Nat} {d : List Int} {v : Value} {xs : List Value} (h : DgB w b d) (ho : w.ownsRow base 70 sz v n xs) (hg : w.grownBy w' v.ownBlock) : DgB w' b d := by
  refine (hg.block b (Array.getElem?_eq_some_iff.1 h).1 (fun e => ?_)).trans h
  obtain ⟨_, ⟨rfl, _⟩ | ⟨g, c, u, rfl, _, gh, _⟩⟩ := ho
  · simp [Value.ownBlock] at e
  · have e' : b = g := by simpa [Value.ownBlock] using e
    subst e'
    unfold DgB at h
    rw [gh] at h
    injection h with h
    injection h with _ h _
    exact absurd h (by decide)
set_option maxRecDepth 100000 in
set_option maxHeartbeats 4000000 in
theorem Read_any (tag : ByteArray) (pa : Option Addr) (np ncap : Nat) (ls : List Ln) (w : World) (hp : LinesIn w w.heap.size pa np ls) (hn : np ≤ 100000) (hmax2 : ∀ q ∈ ls, q.n ≤ 9223372036854775807) (hsz : ∀ q ∈ ls, ∀ t p f, q.l = [t, p, f] → f.size ≤ 9223372036854775807) :
    Calls Tryd.prog 33 #[.string tag, .slice pa np ncap] w (ResE w (readL tag (wordsOf ls))) := by
  have HP := Lib.hid hp; have HM2 := Lib.hid hmax2; have HSZ0 := Lib.hid hsz
  clear hp hmax2 hsz
  obtain ⟨i0, hi0, hz0, hz1, hz2⟩ := info_parts infoE3
  go_enter Tryd.func33, Tryd.ntmps33
  go_wp2_with (refine wpList_make_own w rfl _ _ 22 rfl w.heap.size 70 i0 _ 33 Tryd.underlying22 hi0 hz0 hz1 .i64 .i64 (np : Int) np rfl rfl rfl (by rw [hz2]; omega) (by unfold maxLen; omega) (Nat.le_refl _) ?_; intro w1 hown1 hg1)
  have HB1 := Lib.hid ((Below.refl w.heap.size w).grown hg1 (Nat.le_refl _) (fun k e => by cases e))
  have HO1 := Lib.hid hown1
  clear hg1 hown1 hi0 hz0 hz1 hz2
  go_loopw [6, 16] (fun v i wr => ∃ (k : Nat) (done : List En) (sp' : Option Addr) (cap' : Nat), k ≤ np ∧ i = .int .i64 k ∧ v = .slice sp' k cap' ∧ Hid (k = done.length) ∧ Hid (rawL tag (wordsOf ls) = (rawL tag ((wordsOf ls).drop k)).map (done ++ ·)) ∧ Hid (OwnE wr w.heap.size (.slice sp' k cap') done) ∧ Hid (Below w.heap.size w wr)) (fun _ i _ => np - (intOf i).toNat)
  case atStart => exact ⟨0, [], _, _, Nat.zero_le _, rfl, rfl, rfl, by show _ = _; simp, ⟨HO1.out, by simp⟩, HB1.out⟩
  case round =>
    obtain ⟨k, done, sp', cap', hk, rfl, rfl, HKL, HRD, hown, hbe⟩ := hrel
    have hbs := hbe.out.size
    by_cases hlt : k < np
    · have hd : decide ((k : Int) < (np : Int)) = true := by simp; omega
      have hkl : k < ls.length := by rw [HP.out.len]; exact hlt
      obtain ⟨pb, po, rfl, hpb, hpc⟩ := HP.out.cells (by omega)
      obtain ⟨q, hq⟩ : ∃ q, ls[k]'hkl = q := ⟨_, rfl⟩
      have hmem : q ∈ ls := by rw [← hq]; exact List.getElem_mem hkl
      have hLC := fun W (hb : Below w.heap.size w W) => (hb.cell (p := ⟨pb, po + k, none⟩) hpb).trans (hpc k hkl)
      rw [hq] at hLC
      have hstr := HP.out.each q hmem
      have hsz := HSZ0.out q hmem
      have hln : (wordsOf ls)[k]? = some q.l := by rw [wordsOf_get? ls k hkl, hq]
      have HSTOP : Hid (rawL tag (wordsOf ls) = (rawL tag ((wordsOf ls).drop k)).map (done ++ ·) → rawL tag (wordsOf ls) = none) ∨ Hid (∃ x, rd1 tag q.l = some x) := by
        cases hr : rd1 tag q.l with
        | none => exact .inl (fun h => rawL_stop h hln hr)
        | some x => exact .inr ⟨x, rfl⟩
      have hstop : rd1 tag q.l = none → Hid (rawL tag (wordsOf ls) = (rawL tag ((wordsOf ls).drop k)).map (done ++ ·) → rawL tag (wordsOf ls) = none) := fun hr h => rawL_stop h hln hr
      have hstep : ∀ x, rd1 tag q.l = some x → Hid (rawL tag (wordsOf ls) = (rawL tag ((wordsOf ls).drop (k + 1))).map ((done ++ [x]) ++ ·)) := fun x hr => rawL_step HRD.out hln hr
      clear HSTOP
      obtain ⟨qsp, qn, qcap, ql⟩ := q
      have hl1 : wr.cell? ⟨pb, po + k, none⟩ = some (.slice qsp qn qcap) := hLC wr hbe.out
      have hmx : qn ≤ 9223372036854775807 := HM2.out _ hmem
      have p1 : (0 : Int) ≤ (k : Int) := by omega
      have p2 : (k : Int) < (np : Int) := by omega
      simp only at hstr hsz hstop hstep
      have hqn := hstr.len
      clear hq hmem hpc hln
      by_cases h3 : qn = 3
      case neg =>
        have e1 : ((qn : Int) != 3) = true := by rw [bne_iff_ne]; omega
        have HSTOP := hstop (rd1_len (by omega))
        clear hstop hstep hstr hsz hLC
        go_wp2_with fail
        go_ret2
        exact resE_error (readL_none (HSTOP.out HRD.out)) rfl hbe.out
      subst h3
      obtain ⟨t, p, f, rfl⟩ := three_of hqn
      obtain ⟨b2, o2, rfl, hb2, g⟩ := hstr.cells (by omega)
      have hCW : ∀ W, Below w.heap.size w W → (W.cell? ⟨b2, o2, none⟩ = some (.string t) ∧ W.cell? ⟨b2, o2 + 2, none⟩ = some (.string f)) ∧ (W.cell? ⟨b2, o2 + 1, none⟩ = some (.string p)) := fun W hb => by
        have g0 := (hb.cell (p := ⟨b2, o2 + 0, none⟩) hb2).trans (g 0 (by simp))
        have g1 := (hb.cell (p := ⟨b2, o2 + 1, none⟩) hb2).trans (g 1 (by simp))
        have g2 := (hb.cell (p := ⟨b2, o2 + 2, none⟩) hb2).trans (g 2 (by simp))
        exact ⟨⟨g0, g2⟩, g1⟩
      have HCX := Lib.hid hCW
      have hc0 := (HCX.out wr hbe.out).1.1
      have hc2 := (HCX.out wr hbe.out).1.2
      have HCW : Hid (∀ W, Below w.heap.size w W → (W.cell? ⟨b2, o2 + 1, none⟩ = some (.string p))) := fun W hb => (HCX.out W hb).2
      have HSZ := Lib.hid hsz
      clear hCW HCX g hstr hqn hLC hsz
      have e1 : ((3 : Int) != 3) = false := by decide
      by_cases ht : t = tag
      case neg =>
        have e2 : (!(t.toList == tag.toList)) = true := by rw [Bool.not_eq_true', beq_eq_false_iff_ne]; exact fun e => ht (toList_inj e)
        have HSTOP := hstop (rd1_tag ht)
        clear hstop hstep ht
        go_wp2_with fail
        go_ret2
        exact resE_error (readL_none (HSTOP.out HRD.out)) rfl hbe.out
      subst ht
      have e2 : (!(t.toList == t.toList)) = false := by simp
      have HPA : Hid (∀ W, Calls Tryd.prog 73 #[.string f] W fun e w' => e = .returned (.tuple #[.agg ((ppby f.data.toList).map (Value.int .u8)).toArray, .bool (ppok f.data.toList)]) ∧ Below W.heap.size W w') := fun W => Parse_any f W (HSZ.out _ _ f rfl)
      have HP32 : Hid (OkE ⟨p, ppby f.data.toList⟩) := ppby_byt _
      have HI1 : Hid ((Tryd.prog.info? 28).map (·.size) = some ((ppby f.data.toList).map (Value.int .u8)).toArray.size) := by show _ = _; rw [List.size_toArray]; exact info_d HP32.out
      have HI1s : Hid (32 = ((ppby f.data.toList).map (Value.int .u8)).toArray.size) := by show _ = _; rw [List.size_toArray]; simpa using (show 32 = (ppby f.data.toList).length from HP32.out.1.symm)
      cases hok : ppok f.data.toList with
      | false =>
        have HSTOP := hstop (rd1_bad hok)
        rw [hok] at HPA
        clear hstop hstep hok
        go_wp2_with fail
        refine (HPA.out _).mono ?_
        rintro e w3 ⟨rfl, hb3⟩
        have HB3 := Lib.hid (hbe.out.trans (hb3.mono hbs)); have HO3 := Lib.hid (hown.out.below hb3); clear hb3
        go_wp2_with (first | (refine wpList_store_row rfl 28 _ _ rfl w3.heap.size _ rfl rfl 28 _ (heap_alloc_new w3 _) HI1.out ((rfl : ((Array.replicate 32 (Value.int .u8 0))).size = 32).trans HI1s.out) (dgA_one _) ?_; rw [setRow_new]; generalize hw4 : World.alloc w3 _ = w4; have hd4 : DgB w4 w3.heap.size (ppby f.data.toList) := (by rw [← hw4]; exact heap_alloc_new _ _); have hb4 : Below w3.heap.size w3 w4 := (by rw [← hw4]; exact (Below.refl _ _).alloc (Nat.le_refl _) _); have HD4 := Lib.hid hd4; have HB4 := Lib.hid (HB3.out.trans (hb4.mono HB3.out.size)); have HO4 := Lib.hid (HO3.out.below hb4); clear hw4 hd4 hb4))
        go_ret2
        exact resE_error (readL_none (HSTOP.out HRD.out)) rfl HB4.out
      | true =>
        have HSTEP := hstep _ (rd1_good hok)
        rw [hok] at HPA
        clear hstop hstep hok
        go_wp2_with fail
        refine (HPA.out _).mono ?_
        rintro e w3 ⟨rfl, hb3⟩
        have HB3 := Lib.hid (hbe.out.trans (hb3.mono hbs)); have HO3 := Lib.hid (hown.out.below hb3); clear hb3
        go_wp2_with (first | (refine wpList_store_row rfl 28 _ _ rfl w3.heap.size _ rfl rfl 28 _ (heap_alloc_new w3 _) HI1.out ((rfl : ((Array.replicate 32 (Value.int .u8 0))).size = 32).trans HI1s.out) (dgA_one _) ?_; rw [setRow_new]; generalize hw4 : World.alloc w3 _ = w4; have hd4 : DgB w4 w3.heap.size (ppby f.data.toList) := (by rw [← hw4]; exact heap_alloc_new _ _); have hb4 : Below w3.heap.size w3 w4 := (by rw [← hw4]; exact (Below.refl _ _).alloc (Nat.le_refl _) _); have HD4 := Lib.hid hd4; have HB4 := Lib.hid (HB3.out.trans (hb4.mono HB3.out.size)); have HO4 := Lib.hid (HO3.out.below hb4); clear hw4 hd4 hb4))
        refine wp_region_held_drew (S := fun w' => (w'.cell? ⟨b2, o2 + 1, none⟩ = some (.string p)) ∧ DgB w' w3.heap.size (ppby f.data.toList)) (by kernel_rfl) ⟨HCW.out _ HB4.out.drew, HD4.out⟩ (fun hHeld => ?_)
        refine wpAnyH_take (i := 0) (oi := _) (v := ?v0n1) rfl (by kernel_rfl) (by kernel_rfl) (by kernel_rfl) (fun _ _ _ h => h) (Or.inl ⟨by rfl, ?hy0n1⟩) (by assumption) ?rest0n1
        case hy0n1 =>
          intro w' hSw
          go_simp
          try with_reducible rfl
        try simp only [Act.put, List.getElem_toArray, List.getElem_cons_succ, List.getElem_cons_zero, List.setIfInBounds_toArray, List.set_cons_zero, List.set_cons_succ]
        refine wpAnyH_take (i := 1) (oi := _) (v := ?v1n2) rfl (by kernel_rfl) (by kernel_rfl) (by kernel_rfl) (fun _ _ _ h => h) (Or.inl ⟨by rfl, ?hy1n2⟩) (by assumption) ?rest1n2
        case hy1n2 =>
          intro w' hSw
          go_simp
          try with_reducible rfl
        try simp only [Act.put, List.getElem_toArray, List.getElem_cons_succ, List.getElem_cons_zero, List.setIfInBounds_toArray, List.set_cons_zero, List.set_cons_succ]
        refine wpAnyH_take (i := 2) (oi := _) (v := ?v2n3) rfl (by kernel_rfl) (by kernel_rfl) (by kernel_rfl) (fun _ _ _ h => h) (Or.inl ⟨by rfl, ?hy2n3⟩) (by assumption) ?rest2n3
        case hy2n3 =>
          intro w' hSw
          go_simp
          try with_reducible rfl
        try simp only [Act.put, List.getElem_toArray, List.getElem_cons_succ, List.getElem_cons_zero, List.setIfInBounds_toArray, List.set_cons_zero, List.set_cons_succ]
        refine wpAnyH_take (i := 3) (oi := _) (v := ?v3n4) rfl (by kernel_rfl) (by kernel_rfl) (by kernel_rfl) (fun _ _ _ h => h) (Or.inl ⟨by rfl, ?hy3n4⟩) (by assumption) ?rest3n4
        case hy3n4 =>
          intro w' hSw
          have h1 := hSw.1
          go_simp
          try with_reducible rfl
        try simp only [Act.put, List.getElem_toArray, List.getElem_cons_succ, List.getElem_cons_zero, List.setIfInBounds_toArray, List.set_cons_zero, List.set_cons_succ]
        refine' wpAnyH_take (i := 4) (oi := _) (v := _) rfl (by kernel_rfl) (by kernel_rfl) (by kernel_rfl) (fun _ _ _ h => h) (yieldsIf_load_mid (by rfl) _ _ rfl _ _ rfl _ _ ?hS4n5 Tryd.underlying28 rfl (info_d HP32.out)) (by assumption) ?rest4n5
        case hS4n5 =>
          intro w' hSw
          exact hSw.2.all
        try simp only [Act.put, List.getElem_toArray, List.getElem_cons_succ, List.getElem_cons_zero, List.setIfInBounds_toArray, List.set_cons_zero, List.set_cons_succ]
        refine wpAnyH_take (i := 5) (oi := _) (v := _) rfl (by kernel_rfl) (by kernel_rfl) (by kernel_rfl) (fun _ _ _ h => h) (yieldsIf_buildS (by rfl) 70 [(0, .tmp 42), (1, .tmp 43)] rfl [(0, .string p), (1, .agg ((ppby f.data.toList).map (Value.int .u8)).toArray)] rfl _ (fun w' _ => buildE p (ppby f.data.toList) HP32.out.1 w')) (by assumption) ?rest5n6
        try simp only [Act.put, List.getElem_toArray, List.getElem_cons_succ, List.getElem_cons_zero, List.setIfInBounds_toArray, List.set_cons_zero, List.set_cons_succ]
        refine wpAnyH_ready (rs := [6]) (by kernel_rfl) (by simp) (AllReadyH.cons (o := _) rfl (fun K hK => ?_) AllReadyH.nil)
        rw [if_pos (by rfl)]
        refine wp_slice_eqS 22 1 [(0, .tmp 44)] rfl [(0, .agg (enL ⟨p, ppby f.data.toList⟩).toArray)] rfl _ _ (sliceE _ ⟨p, ppby f.data.toList⟩ HP32.out) ?_
        generalize hw5 : World.alloc w4.drew _ = w5
        have he5 : EnB w5 w4.heap.size ⟨p, ppby f.data.toList⟩ := by rw [← hw5]; exact heap_alloc_new w4.drew _
        have hb5 : Below w4.heap.size w4 w5 := by rw [← hw5]; exact ((Below.refl _ w4).drew).alloc (Nat.le_refl _) _
        have HE5 := Lib.hid he5
        have HB5 := Lib.hid (HB4.out.trans (hb5.mono HB4.out.size))
        have HO5 := Lib.hid (HO4.out.below hb5)
        have HD5 := Lib.hid (HD4.out.belowL hb5)
        have hs5 := HB5.out.size
        have hs4 := HB4.out.size
        clear hw5 he5 hb5
        refine hK.out _ _ ⟨HCW.out _ HB5.out, HD5.out⟩ (fun hHeld => ?_)
        clear hK K
        try simp only [Act.put, List.getElem_toArray, List.getElem_cons_succ, List.getElem_cons_zero, List.setIfInBounds_toArray, List.set_cons_zero, List.set_cons_succ]
        refine wpAnyH_ready (rs := [7]) (by kernel_rfl) (by simp) (AllReadyH.cons (o := _) rfl (fun K hK => ?_) AllReadyH.nil)
        rw [if_pos (by rfl)]
        refine wp_append_enS (.tmp 39) (.tmp 45) rfl w.heap.size _ done k HKL.out rfl HO5.out w4.heap.size ⟨p, ppby f.data.toList⟩ rfl HE5.out HP32.out (by omega) (by omega) ?_
        intro sp6 cap6 w6 HO6 HB6 HG6
        have HB7 := Lib.hid (HB5.out.trans HB6.out)
        have HD6 := Lib.hid (HD5.out.keptL HO5.out.1 HG6.out)
        refine hK.out _ _ ⟨HCW.out _ HB7.out, HD6.out⟩ (fun hHeld => ?_)
        clear hK K
        try simp only [Act.put, List.getElem_toArray, List.getElem_cons_succ, List.getElem_cons_zero, List.setIfInBounds_toArray, List.set_cons_zero, List.set_cons_succ]
        refine wpAnyH_take (i := 8) (oi := _) (v := ?v8n7) rfl (by kernel_rfl) (by kernel_rfl) (by kernel_rfl) (fun _ _ _ h => h) (Or.inl ⟨by rfl, ?hy8n7⟩) (by assumption) ?rest8n7
        case hy8n7 =>
          intro w' hSw
          go_simp
          try with_reducible rfl
        try simp only [Act.put, List.getElem_toArray, List.getElem_cons_succ, List.getElem_cons_zero, List.setIfInBounds_toArray, List.set_cons_zero, List.set_cons_succ]
        refine wpAnyH_done (by kernel_rfl) ?_ _
        clear hHeld
        go_wp2_with fail
        go_roundw
        case rel => exact ⟨k + 1, done ++ [⟨p, ppby f.data.toList⟩], sp6, cap6, by omega, by go_num, rfl, by show _ = _; rw [List.length_append, ← HKL.out]; rfl, HSTEP, HO6, HB7⟩
        case measure => simp [intOf]; omega
    · obtain rfl : k = np := by omega
      have hd : decide ((k : Int) < (k : Int)) = false := by simp
      have HEND : Hid (rawL tag (wordsOf ls) = some done) := rawL_end HRD.out (by rw [wordsOf_length, HP.out.len]; exact Nat.le_refl _)
      have hval := Valid_any sp' k cap' done wr (hown.out.ens HKL.out.symm) (by omega)
      have HRL := Lib.hid (readL_some HEND.out)
      cases hv : vldE done with
      | true =>
        rw [hv] at hval
        have HVAL := Lib.hid hval; have HV := Lib.hid hv; clear hval hv
        go_wp2_with fail
        refine HVAL.out.mono ?_
        rintro e w9 ⟨rfl, hb9⟩
        have HB9 := Lib.hid (hbe.out.trans (hb9.mono hbs)); have HO9 := Lib.hid (hown.out.below hb9); clear hb9
        go_wp2_with fail
        go_ret2
        exact resE_ok (by rw [HRL.out, HV.out]; rfl) HKL.out rfl HO9.out HB9.out
      | false =>
        rw [hv] at hval
        have HVAL := Lib.hid hval; have HV := Lib.hid hv; clear hval hv
        go_wp2_with fail
        refine HVAL.out.mono ?_
        rintro e w9 ⟨rfl, hb9⟩
        have HB9 := Lib.hid (hbe.out.trans (hb9.mono hbs)); clear hb9
        go_wp2_with fail
        go_ret2
        exact resE_error (by rw [HRL.out, HV.out]; rfl) rfl HB9.out
end Go.Proofs.YtkookkhlgllneaaDoor

namespace Go.Proofs.YtkookkhlgllneaaDoor
open Go.RowKit

/-- what Raw answers -/
def RawRes (w : World) (r : Option (List En)) (e : Ending) (w' : World) : Prop := match r with
  | none => e = .returned (.tuple #[.slice none 0 0, .bool false]) ∧ Below w.heap.size w w'
  | some l => ∃ sp cap, e = .returned (.tuple #[.slice sp l.length cap, .bool true]) ∧ OwnE w' w.heap.size (.slice sp l.length cap) l ∧ Below w.heap.size w w'
theorem rawRes_none {w w' : World} {r : Option (List En)} {e : Ending} (h : r = none) (he : e = .returned (.tuple #[.slice none 0 0, .bool false])) (hb : Below w.heap.size w w') : RawRes w r e w' := by subst h; exact ⟨he, hb⟩
theorem rawRes_some {w w' : World} {r : Option (List En)} {l : List En} {e : Ending} {sp : Option Addr} {n cap : Nat} (h : r = some l) (hn : n = l.length) (he : e = .returned (.tuple #[.slice sp n cap, .bool true])) (ho : OwnE w' w.heap.size (.slice sp n cap) l) (hb : Below w.heap.size w w') : RawRes w r e w' := by subst h; subst hn; exact ⟨sp, cap, he, ho, hb⟩
set_option maxRecDepth 100000 in
set_option maxHeartbeats 4000000 in
theorem Raw_any (tag : ByteArray) (pa : Option Addr) (np ncap : Nat) (ls : List Ln) (w : World) (hp : LinesIn w w.heap.size pa np ls) (hn : np ≤ 100000) (hmax2 : ∀ q ∈ ls, q.n ≤ 9223372036854775807) (hsz : ∀ q ∈ ls, ∀ t p f, q.l = [t, p, f] → f.size ≤ 9223372036854775807) :
    Calls Tryd.prog 74 #[.string tag, .slice pa np ncap] w (RawRes w (rawL tag (wordsOf ls))) := by
  have HP := Lib.hid hp; have HM2 := Lib.hid hmax2; have HSZ0 := Lib.hid hsz
  clear hp hmax2 hsz
  go_enter Tryd.func74, Tryd.ntmps74
  go_wp2_with fail
  go_loopw [6, 7] (fun v i wr => ∃ (k : Nat) (done : List En) (sp' : Option Addr) (cap' : Nat), k ≤ np ∧ i = .int .i64 k ∧ v = .slice sp' k cap' ∧ Hid (k = done.length) ∧ Hid (rawL tag (wordsOf ls) = (rawL tag ((wordsOf ls).drop k)).map (done ++ ·)) ∧ Hid (OwnE wr w.heap.size (.slice sp' k cap') done) ∧ Hid (Below w.heap.size w wr)) (fun _ i _ => np - (intOf i).toNat)
  case atStart => exact ⟨0, [], _, _, Nat.zero_le _, rfl, rfl, rfl, by show _ = _; simp, OwnE.nil _ _, Below.refl _ _⟩
  case round =>
    obtain ⟨k, done, sp', cap', hk, rfl, rfl, HKL, HRD, hown, hbe⟩ := hrel
    have hbs := hbe.out.size
    by_cases hlt : k < np
    · have hd : decide ((k : Int) < (np : Int)) = true := by simp; omega
      have hkl : k < ls.length := by rw [HP.out.len]; exact hlt
      obtain ⟨pb, po, rfl, hpb, hpc⟩ := HP.out.cells (by omega)
      obtain ⟨q, hq⟩ : ∃ q, ls[k]'hkl = q := ⟨_, rfl⟩
      have hmem : q ∈ ls := by rw [← hq]; exact List.getElem_mem hkl
      have hLC := fun W (hb : Below w.heap.size w W) => (hb.cell (p := ⟨pb, po + k, none⟩) hpb).trans (hpc k hkl)
      rw [hq] at hLC
      have hstr := HP.out.each q hmem
      have hsz := HSZ0.out q hmem
      have hln : (wordsOf ls)[k]? = some q.l := by rw [wordsOf_get? ls k hkl, hq]
      have HSTOP : Hid (rawL tag (wordsOf ls) = (rawL tag ((wordsOf ls).drop k)).map (done ++ ·) → rawL tag (wordsOf ls) = none) ∨ Hid (∃ x, rd1 tag q.l = some x) := by
        cases hr : rd1 tag q.l with
        | none => exact .inl (fun h => rawL_stop h hln hr)
        | some x => exact .inr ⟨x, rfl⟩
      have hstop : rd1 tag q.l = none → Hid (rawL tag (wordsOf ls) = (rawL tag ((wordsOf ls).drop k)).map (done ++ ·) → rawL tag (wordsOf ls) = none) := fun hr h => rawL_stop h hln hr
      have hstep : ∀ x, rd1 tag q.l = some x → Hid (rawL tag (wordsOf ls) = (rawL tag ((wordsOf ls).drop (k + 1))).map ((done ++ [x]) ++ ·)) := fun x hr => rawL_step HRD.out hln hr
      clear HSTOP
      obtain ⟨qsp, qn, qcap, ql⟩ := q
      have hl1 : wr.cell? ⟨pb, po + k, none⟩ = some (.slice qsp qn qcap) := hLC wr hbe.out
      have hmx : qn ≤ 9223372036854775807 := HM2.out _ hmem
      have p1 : (0 : Int) ≤ (k : Int) := by omega
      have p2 : (k : Int) < (np : Int) := by omega
      have q1 : IntKind.i64.wrap (k : Int) = (k : Int) := IntWalk.i64_in _ (by omega)
      simp only at hstr hsz hstop hstep
      have hqn := hstr.len
      clear hq hmem hpc hln
      by_cases h3 : qn = 3
      case neg =>
        have e1 : ((qn : Int) != 3) = true := by rw [bne_iff_ne]; omega
        have HSTOP := hstop (rd1_len (by omega))
        clear hstop hstep hstr hsz hLC
        go_wp2_with fail
        go_ret2
        exact rawRes_none (HSTOP.out HRD.out) rfl hbe.out
      subst h3
      obtain ⟨t, p, f, rfl⟩ := three_of hqn
      obtain ⟨b2, o2, rfl, hb2, g⟩ := hstr.cells (by omega)
      have hCW : ∀ W, Below w.heap.size w W → (W.cell? ⟨b2, o2, none⟩ = some (.string t) ∧ W.cell? ⟨b2, o2 + 2, none⟩ = some (.string f)) ∧ (W.cell? ⟨pb, po + k, none⟩ = some (.slice (some ⟨b2, o2, none⟩) 3 qcap) ∧ W.cell? ⟨b2, o2 + 1, none⟩ = some (.string p)) := fun W hb => by
        have g0 := (hb.cell (p := ⟨b2, o2 + 0, none⟩) hb2).trans (g 0 (by simp))
        have g1 := (hb.cell (p := ⟨b2, o2 + 1, none⟩) hb2).trans (g 1 (by simp))
        have g2 := (hb.cell (p := ⟨b2, o2 + 2, none⟩) hb2).trans (g 2 (by simp))
        exact ⟨⟨g0, g2⟩, ⟨hLC W hb, g1⟩⟩
      have HCX := Lib.hid hCW
      have hc0 := (HCX.out wr hbe.out).1.1
      have hc2 := (HCX.out wr hbe.out).1.2
      have HCW : Hid (∀ W, Below w.heap.size w W → (W.cell? ⟨pb, po + k, none⟩ = some (.slice (some ⟨b2, o2, none⟩) 3 qcap) ∧ W.cell? ⟨b2, o2 + 1, none⟩ = some (.string p))) := fun W hb => (HCX.out W hb).2
      have HSZ := Lib.hid hsz
      clear hCW HCX g hstr hqn hLC hsz
      have e1 : ((3 : Int) != 3) = false := by decide
      by_cases ht : t = tag
      case neg =>
        have e2 : (!(t.toList == tag.toList)) = true := by rw [Bool.not_eq_true', beq_eq_false_iff_ne]; exact fun e => ht (toList_inj e)
        have HSTOP := hstop (rd1_tag ht)
        clear hstop hstep ht
        go_wp2_with fail
        go_ret2
        exact rawRes_none (HSTOP.out HRD.out) rfl hbe.out
      subst ht
      have e2 : (!(t.toList == t.toList)) = false := by simp
      have HPA : Hid (∀ W, Calls Tryd.prog 116 #[.string f] W fun e w' => e = .returned (.tuple #[.agg ((ppby f.data.toList).map (Value.int .u8)).toArray, .bool (ppok f.data.toList)]) ∧ Below W.heap.size W w') := fun W => refParse_any f W
      have HP32 : Hid (OkE ⟨p, ppby f.data.toList⟩) := ppby_byt _
      have HI1 : Hid ((Tryd.prog.info? 28).map (·.size) = some ((ppby f.data.toList).map (Value.int .u8)).toArray.size) := by show _ = _; rw [List.size_toArray]; exact info_d HP32.out
      have HI1s : Hid (32 = ((ppby f.data.toList).map (Value.int .u8)).toArray.size) := by show _ = _; rw [List.size_toArray]; simpa using (show 32 = (ppby f.data.toList).length from HP32.out.1.symm)
      cases hok : ppok f.data.toList with
      | false =>
        have HSTOP := hstop (rd1_bad hok)
        rw [hok] at HPA
        clear hstop hstep hok
        go_wp2_with fail
        refine (HPA.out _).mono ?_
        rintro e w3 ⟨rfl, hb3⟩
        have HB3 := Lib.hid (hbe.out.trans (hb3.mono hbs)); have HO3 := Lib.hid (hown.out.below hb3); clear hb3
        go_wp2_with (first | (refine wpList_store_row rfl 28 _ _ rfl w3.heap.size _ rfl rfl 28 _ (heap_alloc_new w3 _) HI1.out ((rfl : ((Array.replicate 32 (Value.int .u8 0))).size = 32).trans HI1s.out) (dgA_one _) ?_; rw [setRow_new]; generalize hw4 : World.alloc w3 _ = w4; have hd4 : DgB w4 w3.heap.size (ppby f.data.toList) := (by rw [← hw4]; exact heap_alloc_new _ _); have hb4 : Below w3.heap.size w3 w4 := (by rw [← hw4]; exact (Below.refl _ _).alloc (Nat.le_refl _) _); have HD4 := Lib.hid hd4; have HB4 := Lib.hid (HB3.out.trans (hb4.mono HB3.out.size)); have HO4 := Lib.hid (HO3.out.below hb4); clear hw4 hd4 hb4))
        go_ret2
        exact rawRes_none (HSTOP.out HRD.out) rfl HB4.out
      | true =>
        have HSTEP := hstep _ (rd1_good hok)
        rw [hok] at HPA
        clear hstop hstep hok
        go_wp2_with fail
        refine (HPA.out _).mono ?_
        rintro e w3 ⟨rfl, hb3⟩
        have HB3 := Lib.hid (hbe.out.trans (hb3.mono hbs)); have HO3 := Lib.hid (hown.out.below hb3); clear hb3
        have hl4 := fun W hb => (HCW.out W hb).1
        go_wp2_with (first | (refine wpList_store_row rfl 28 _ _ rfl w3.heap.size _ rfl rfl 28 _ (heap_alloc_new w3 _) HI1.out ((rfl : ((Array.replicate 32 (Value.int .u8 0))).size = 32).trans HI1s.out) (dgA_one _) ?_; rw [setRow_new]; generalize hw4 : World.alloc w3 _ = w4; have hd4 : DgB w4 w3.heap.size (ppby f.data.toList) := (by rw [← hw4]; exact heap_alloc_new _ _); have hb4 : Below w3.heap.size w3 w4 := (by rw [← hw4]; exact (Below.refl _ _).alloc (Nat.le_refl _) _); have HD4 := Lib.hid hd4; have HB4 := Lib.hid (HB3.out.trans (hb4.mono HB3.out.size)); have HO4 := Lib.hid (HO3.out.below hb4); clear hw4 hd4 hb4))
        refine wp_region_held_drew (S := fun w' => (w'.cell? ⟨pb, po + k, none⟩ = some (.slice (some ⟨b2, o2, none⟩) 3 qcap) ∧ w'.cell? ⟨b2, o2 + 1, none⟩ = some (.string p)) ∧ DgB w' w3.heap.size (ppby f.data.toList)) (by kernel_rfl) ⟨HCW.out _ HB4.out.drew, HD4.out⟩ (fun hHeld => ?_)
        refine wpAnyH_take (i := 0) (oi := _) (v := ?v0n8) rfl (by kernel_rfl) (by kernel_rfl) (by kernel_rfl) (fun _ _ _ h => h) (Or.inl ⟨by rfl, ?hy0n8⟩) (by assumption) ?rest0n8
        case hy0n8 =>
          intro w' hSw
          go_simp
          try with_reducible rfl
        try simp only [Act.put, List.getElem_toArray, List.getElem_cons_succ, List.getElem_cons_zero, List.setIfInBounds_toArray, List.set_cons_zero, List.set_cons_succ]
        refine wpAnyH_take (i := 1) (oi := _) (v := ?v1n9) rfl (by kernel_rfl) (by kernel_rfl) (by kernel_rfl) (fun _ _ _ h => h) (Or.inl ⟨by rfl, ?hy1n9⟩) (by assumption) ?rest1n9
        case hy1n9 =>
          intro w' hSw
          go_simp
          try with_reducible rfl
        try simp only [Act.put, List.getElem_toArray, List.getElem_cons_succ, List.getElem_cons_zero, List.setIfInBounds_toArray, List.set_cons_zero, List.set_cons_succ]
        refine wpAnyH_take (i := 2) (oi := _) (v := ?v2n10) rfl (by kernel_rfl) (by kernel_rfl) (by kernel_rfl) (fun _ _ _ h => h) (Or.inl ⟨by rfl, ?hy2n10⟩) (by assumption) ?rest2n10
        case hy2n10 =>
          intro w' hSw
          go_simp
          try with_reducible rfl
        try simp only [Act.put, List.getElem_toArray, List.getElem_cons_succ, List.getElem_cons_zero, List.setIfInBounds_toArray, List.set_cons_zero, List.set_cons_succ]
        refine wpAnyH_take (i := 3) (oi := _) (v := ?v3n11) rfl (by kernel_rfl) (by kernel_rfl) (by kernel_rfl) (fun _ _ _ h => h) (Or.inl ⟨by rfl, ?hy3n11⟩) (by assumption) ?rest3n11
        case hy3n11 =>
          intro w' hSw
          go_simp
          try with_reducible rfl
        try simp only [Act.put, List.getElem_toArray, List.getElem_cons_succ, List.getElem_cons_zero, List.setIfInBounds_toArray, List.set_cons_zero, List.set_cons_succ]
        refine wpAnyH_take (i := 4) (oi := _) (v := ?v4n12) rfl (by kernel_rfl) (by kernel_rfl) (by kernel_rfl) (fun _ _ _ h => h) (Or.inl ⟨by rfl, ?hy4n12⟩) (by assumption) ?rest4n12
        case hy4n12 =>
          intro w' hSw
          have h1 := hSw.1.1
          go_simp
          try with_reducible rfl
        try simp only [Act.put, List.getElem_toArray, List.getElem_cons_succ, List.getElem_cons_zero, List.setIfInBounds_toArray, List.set_cons_zero, List.set_cons_succ]
        refine wpAnyH_take (i := 5) (oi := _) (v := ?v5n13) rfl (by kernel_rfl) (by kernel_rfl) (by kernel_rfl) (fun _ _ _ h => h) (Or.inl ⟨by rfl, ?hy5n13⟩) (by assumption) ?rest5n13
        case hy5n13 =>
          intro w' hSw
          go_simp
          try with_reducible rfl
        try simp only [Act.put, List.getElem_toArray, List.getElem_cons_succ, List.getElem_cons_zero, List.setIfInBounds_toArray, List.set_cons_zero, List.set_cons_succ]
        refine wpAnyH_take (i := 6) (oi := _) (v := ?v6n14) rfl (by kernel_rfl) (by kernel_rfl) (by kernel_rfl) (fun _ _ _ h => h) (Or.inl ⟨by rfl, ?hy6n14⟩) (by assumption) ?rest6n14
        case hy6n14 =>
          intro w' hSw
          have h1 := hSw.1.2
          go_simp
          try with_reducible rfl
        try simp only [Act.put, List.getElem_toArray, List.getElem_cons_succ, List.getElem_cons_zero, List.setIfInBounds_toArray, List.set_cons_zero, List.set_cons_succ]
        refine' wpAnyH_take (i := 7) (oi := _) (v := _) rfl (by kernel_rfl) (by kernel_rfl) (by kernel_rfl) (fun _ _ _ h => h) (yieldsIf_load_mid (by rfl) _ _ rfl _ _ rfl _ _ ?hS7n15 Tryd.underlying28 rfl (info_d HP32.out)) (by assumption) ?rest7n15
        case hS7n15 =>
          intro w' hSw
          exact hSw.2.all
        try simp only [Act.put, List.getElem_toArray, List.getElem_cons_succ, List.getElem_cons_zero, List.setIfInBounds_toArray, List.set_cons_zero, List.set_cons_succ]
        refine wpAnyH_take (i := 8) (oi := _) (v := _) rfl (by kernel_rfl) (by kernel_rfl) (by kernel_rfl) (fun _ _ _ h => h) (yieldsIf_buildS (by rfl) 70 [(0, .tmp 50), (1, .tmp 51)] rfl [(0, .string p), (1, .agg ((ppby f.data.toList).map (Value.int .u8)).toArray)] rfl _ (fun w' _ => buildE p (ppby f.data.toList) HP32.out.1 w')) (by assumption) ?rest8n16
        try simp only [Act.put, List.getElem_toArray, List.getElem_cons_succ, List.getElem_cons_zero, List.setIfInBounds_toArray, List.set_cons_zero, List.set_cons_succ]
        refine wpAnyH_ready (rs := [9]) (by kernel_rfl) (by simp) (AllReadyH.cons (o := _) rfl (fun K hK => ?_) AllReadyH.nil)
        rw [if_pos (by rfl)]
        refine wp_slice_eqS 22 1 [(0, .tmp 52)] rfl [(0, .agg (enL ⟨p, ppby f.data.toList⟩).toArray)] rfl _ _ (sliceE _ ⟨p, ppby f.data.toList⟩ HP32.out) ?_
        generalize hw5 : World.alloc w4.drew _ = w5
        have he5 : EnB w5 w4.heap.size ⟨p, ppby f.data.toList⟩ := by rw [← hw5]; exact heap_alloc_new w4.drew _
        have hb5 : Below w4.heap.size w4 w5 := by rw [← hw5]; exact ((Below.refl _ w4).drew).alloc (Nat.le_refl _) _
        have HE5 := Lib.hid he5
        have HB5 := Lib.hid (HB4.out.trans (hb5.mono HB4.out.size))
        have HO5 := Lib.hid (HO4.out.below hb5)
        have HD5 := Lib.hid (HD4.out.belowL hb5)
        have hs5 := HB5.out.size
        have hs4 := HB4.out.size
        clear hw5 he5 hb5
        refine hK.out _ _ ⟨HCW.out _ HB5.out, HD5.out⟩ (fun hHeld => ?_)
        clear hK K
        try simp only [Act.put, List.getElem_toArray, List.getElem_cons_succ, List.getElem_cons_zero, List.setIfInBounds_toArray, List.set_cons_zero, List.set_cons_succ]
        refine wpAnyH_ready (rs := [10]) (by kernel_rfl) (by simp) (AllReadyH.cons (o := _) rfl (fun K hK => ?_) AllReadyH.nil)
        rw [if_pos (by rfl)]
        refine wp_append_enS (.tmp 44) (.tmp 53) rfl w.heap.size _ done k HKL.out rfl HO5.out w4.heap.size ⟨p, ppby f.data.toList⟩ rfl HE5.out HP32.out (by omega) (by omega) ?_
        intro sp6 cap6 w6 HO6 HB6 HG6
        have HB7 := Lib.hid (HB5.out.trans HB6.out)
        have HD6 := Lib.hid (HD5.out.keptL HO5.out.1 HG6.out)
        refine hK.out _ _ ⟨HCW.out _ HB7.out, HD6.out⟩ (fun hHeld => ?_)
        clear hK K
        try simp only [Act.put, List.getElem_toArray, List.getElem_cons_succ, List.getElem_cons_zero, List.setIfInBounds_toArray, List.set_cons_zero, List.set_cons_succ]
        refine wpAnyH_take (i := 11) (oi := _) (v := ?v11n17) rfl (by kernel_rfl) (by kernel_rfl) (by kernel_rfl) (fun _ _ _ h => h) (Or.inl ⟨by rfl, ?hy11n17⟩) (by assumption) ?rest11n17
        case hy11n17 =>
          intro w' hSw
          go_simp
          try with_reducible rfl
        try simp only [Act.put, List.getElem_toArray, List.getElem_cons_succ, List.getElem_cons_zero, List.setIfInBounds_toArray, List.set_cons_zero, List.set_cons_succ]
        refine wpAnyH_done (by kernel_rfl) ?_ _
        clear hHeld
        go_wp2_with fail
        go_roundw
        case rel => exact ⟨k + 1, done ++ [⟨p, ppby f.data.toList⟩], sp6, cap6, by omega, by go_num, rfl, by show _ = _; rw [List.length_append, ← HKL.out]; rfl, HSTEP, HO6, HB7⟩
        case measure => simp [intOf]; omega
    · obtain rfl : k = np := by omega
      have hd : decide ((k : Int) < (k : Int)) = false := by simp
      have HEND : Hid (rawL tag (wordsOf ls) = some done) := rawL_end HRD.out (by rw [wordsOf_length, HP.out.len]; exact Nat.le_refl _)
      go_wp2_with fail
      go_ret2
      exact rawRes_some HEND.out HKL.out rfl hown.out hbe.out
set_option maxRecDepth 100000 in
set_option maxHeartbeats 1000000 in
theorem refRead_any (tag : ByteArray) (pa : Option Addr) (np ncap : Nat) (ls : List Ln) (w : World) (hp : LinesIn w w.heap.size pa np ls) (hn : np ≤ 100000) (hmax2 : ∀ q ∈ ls, q.n ≤ 9223372036854775807) (hsz : ∀ q ∈ ls, ∀ t p f, q.l = [t, p, f] → f.size ≤ 9223372036854775807) :
    Calls Tryd.prog 34 #[.string tag, .slice pa np ncap] w (ResE w (readL tag (wordsOf ls))) := by
  have hlen := hp.len
  have HRAW := Lib.hid (Raw_any tag pa np ncap ls w hp hn hmax2 hsz)
  clear hp hmax2 hsz
  cases hr : rawL tag (wordsOf ls) with
  | none =>
    rw [hr] at HRAW
    have HR := Lib.hid (readL_none hr); clear hr
    go_enter Tryd.func34, Tryd.ntmps34
    go_wp2_with fail
    refine HRAW.out.mono ?_
    rintro e w1 ⟨rfl, hb1⟩
    have HB1 := Lib.hid hb1; clear hb1
    go_wp2_with fail
    go_ret2
    exact resE_error HR.out rfl HB1.out
  | some l =>
    have hll := rawL_length hr
    rw [wordsOf_length, hlen] at hll
    rw [hr] at HRAW
    have HR := Lib.hid (readL_some hr); clear hr
    obtain ⟨c, hc⟩ : ∃ c, vldE l = c := ⟨_, rfl⟩
    have HV : Hid (∀ W sp cap, EnsIn W W.heap.size sp l.length cap l → Calls Tryd.prog 18 #[.slice sp l.length cap] W fun e w' => e = .returned (.bool c) ∧ Below W.heap.size W w') := fun W sp cap h => by rw [← hc]; exact refValid_any sp l.length cap l W h (by omega)
    rw [hc] at HR
    clear hc hll hlen hn
    cases c
    · go_enter Tryd.func34, Tryd.ntmps34
      go_wp2_with fail
      refine HRAW.out.mono ?_
      rintro e w1 ⟨sp, cap, rfl, ho1, hb1⟩
      have HB1 := Lib.hid hb1; have HO1 := Lib.hid ho1; clear hb1 ho1
      go_wp2_with fail
      refine (HV.out _ _ _ (HO1.out.ens rfl)).mono ?_
      rintro e w2 ⟨rfl, hb2⟩
      have HB2 := Lib.hid (HB1.out.trans (hb2.mono HB1.out.size)); clear hb2
      go_wp2_with fail
      go_ret2
      exact resE_error (by rw [HR.out]; rfl) rfl HB2.out
    · go_enter Tryd.func34, Tryd.ntmps34
      go_wp2_with fail
      refine HRAW.out.mono ?_
      rintro e w1 ⟨sp, cap, rfl, ho1, hb1⟩
      have HB1 := Lib.hid hb1; have HO1 := Lib.hid ho1; clear hb1 ho1
      go_wp2_with fail
      refine (HV.out _ _ _ (HO1.out.ens rfl)).mono ?_
      rintro e w2 ⟨rfl, hb2⟩
      have HB2 := Lib.hid (HB1.out.trans (hb2.mono HB1.out.size)); have HO2 := Lib.hid (HO1.out.below hb2); clear hb2
      go_wp2_with fail
      go_ret2
      exact resE_ok (by rw [HR.out]; rfl) rfl rfl HO2.out HB2.out
end Go.Proofs.YtkookkhlgllneaaDoor

namespace Go.Proofs.YtkookkhlgllneaaDoor
open Go.RowKit

set_option maxRecDepth 100000 in
set_option maxHeartbeats 1000000 in
theorem same_any (sp1 sp2 : Option Addr) (n c1 c2 B : Nat) (l : List ByteArray) (w : World) (h1 : StrsIn w B sp1 n l) (h2 : StrsIn w B sp2 n l) (hn : n ≤ 9223372036854775807) :
    Calls Tryd.prog 75 #[.slice sp1 n c1, .slice sp2 n c2] w fun e w' => e = .returned (.bool true) ∧ ∃ m, w' = w.drewN m := by
  have H1 := Lib.hid h1; have H2 := Lib.hid h2
  clear h1 h2
  go_enter Tryd.func75, Tryd.ntmps75
  go_wp2_with fail
  go_loopw [5] (fun i wr => ∃ k : Nat, k ≤ n ∧ i = .int .i64 k ∧ Hid (∃ m, wr = w.drewN m)) (fun i _ => n - (intOf i).toNat)
  case atStart => exact ⟨0, Nat.zero_le _, rfl, 0, rfl⟩
  case round =>
    obtain ⟨k, hk, rfl, hw⟩ := hrel
    by_cases hlt : k < n
    · have hd : decide ((k : Int) < (n : Int)) = true := by simp; omega
      have p1 : (0 : Int) ≤ (k : Int) := by omega
      have p2 : (k : Int) < (n : Int) := by omega
      obtain ⟨b1, o1, rfl, _, g1⟩ := H1.out.cells (by omega)
      obtain ⟨b2, o2, rfl, _, g2⟩ := H2.out.cells (by omega)
      have hl := H1.out.len
      have x1 : wr.cell? ⟨b1, o1 + k, none⟩ = some (.string (l[k]'(by omega))) := by
        obtain ⟨m, hm⟩ := hw.out
        rw [hm]; exact g1 k (by omega)
      have x2 : wr.cell? ⟨b2, o2 + k, none⟩ = some (.string (l[k]'(by omega))) := by
        obtain ⟨m, hm⟩ := hw.out
        rw [hm]; exact g2 k (by omega)
      generalize l[k]'(by omega) = x at x1 x2
      have HW : Hid (∀ q, ∃ m, wr.drewN q = w.drewN m) := fun q => by
        obtain ⟨m, hm⟩ := hw.out
        exact ⟨m + q, by rw [hm, World.drewN_drewN]⟩
      clear hw g1 g2 hl
      go_wp2_with fail
      go_quiet (fail)
      go_wp2_with fail
      go_roundw
      case rel => exact ⟨k + 1, by omega, by go_num, HW.out _⟩
      case measure => simp [intOf]; omega
    · obtain rfl : n = k := by omega
      have hd : decide ((n : Int) < (n : Int)) = false := by simp
      go_wp2_with fail
      go_ret
      exact ⟨rfl, hw.out⟩
set_option maxRecDepth 100000 in
set_option maxHeartbeats 1000000 in
theorem sameLines_any (pa pb : Option Addr) (c1 c2 B : Nat) (la lb : List Ln) (w : World) (h1 : LinesIn w B pa la.length la) (h2 : LinesIn w B pb lb.length lb) (heq : wordsOf la = wordsOf lb) (hn : la.length ≤ 9223372036854775807) (hq : ∀ q ∈ la, q.n ≤ 9223372036854775807) :
    Calls Tryd.prog 35 #[.slice pa la.length c1, .slice pb lb.length c2] w fun e w' => e = .returned (.bool true) ∧ ∃ m, w' = w.drewN m := by
  have hle : lb.length = la.length := by have := congrArg List.length heq; rw [wordsOf_length, wordsOf_length] at this; exact this.symm
  rw [hle] at h2 ⊢
  have H1 := Lib.hid h1; have H2 := Lib.hid h2; have HEQ := Lib.hid heq; have HQ := Lib.hid hq; have HLE := Lib.hid hle
  obtain ⟨n, hnn⟩ : ∃ n, la.length = n := ⟨_, rfl⟩
  rw [hnn] at H1 H2 HLE hn ⊢
  have HN := Lib.hid hnn
  clear h1 h2 heq hq hle hnn
  go_enter Tryd.func35, Tryd.ntmps35
  go_wp2_with fail
  go_loopw [5] (fun i wr => ∃ k : Nat, k ≤ n ∧ i = .int .i64 k ∧ Hid (∃ m, wr = w.drewN m)) (fun i _ => n - (intOf i).toNat)
  case atStart => exact ⟨0, Nat.zero_le _, rfl, 0, rfl⟩
  case round =>
    obtain ⟨k, hk, rfl, hw⟩ := hrel
    by_cases hlt : k < n
    · have hd : decide ((k : Int) < (n : Int)) = true := by simp; omega
      have p1 : (0 : Int) ≤ (k : Int) := by omega
      have p2 : (k : Int) < (n : Int) := by omega
      obtain ⟨b1, o1, rfl, _, g1⟩ := H1.out.cells (by omega)
      obtain ⟨b2, o2, rfl, _, g2⟩ := H2.out.cells (by omega)
      have k1 : k < la.length := by rw [HN.out]; exact hlt
      have k2 : k < lb.length := by rw [HLE.out]; exact hlt
      have e1 := H1.out.each _ (List.getElem_mem k1)
      have e2 := H2.out.each _ (List.getElem_mem k2)
      have hll : la[k].l = lb[k].l := by
        rw [← wordsOf_get la k k1, ← wordsOf_get lb k k2]
        have := HEQ.out
        simp only [this]
      have hnl : lb[k].n = la[k].n := by rw [← e1.len, ← e2.len, hll]
      have hqn := HQ.out _ (List.getElem_mem k1)
      have x1 : wr.cell? ⟨b1, o1 + k, none⟩ = some (.slice la[k].sp la[k].n la[k].cap) := by
        obtain ⟨m, hm⟩ := hw.out
        rw [hm]; exact g1 k k1
      have x2 : wr.cell? ⟨b2, o2 + k, none⟩ = some (.slice lb[k].sp la[k].n lb[k].cap) := by
        obtain ⟨m, hm⟩ := hw.out
        rw [hm, ← hnl]; exact g2 k k2
      have HS : Hid (∀ q, Calls Tryd.prog 75 #[.slice la[k].sp la[k].n la[k].cap, .slice lb[k].sp la[k].n lb[k].cap] (wr.drewN q) fun e w' => e = .returned (.bool true) ∧ ∃ m, w' = wr.drewN m) := fun q => by
        obtain ⟨m, hm⟩ := hw.out
        have e2' := e2
        rw [hnl, ← hll] at e2'
        have b0 : Below B w (wr.drewN q) := by rw [hm, World.drewN_drewN]; exact below_drewN (Below.refl _ _) _
        refine (same_any la[k].sp lb[k].sp la[k].n la[k].cap lb[k].cap B la[k].l (wr.drewN q) (e1.below b0 (Nat.le_refl _)) (e2'.below b0 (Nat.le_refl _)) hqn).mono fun e w' ⟨he, m2, h2⟩ => ⟨he, q + m2, by rw [h2, World.drewN_drewN]⟩
      have HW : Hid (∀ q, ∃ m, wr.drewN q = w.drewN m) := fun q => by
        obtain ⟨m, hm⟩ := hw.out
        exact ⟨m + q, by rw [hm, World.drewN_drewN]⟩
      generalize la[k].sp = s1 at *
      generalize la[k].n = m1 at *
      generalize la[k].cap = d1 at *
      generalize lb[k].sp = s2 at *
      generalize lb[k].cap = d2 at *
      clear hw g1 g2 e1 e2 hll hnl k1 k2
      go_wp2_with fail
      go_quiet ((go_at_call 75; exact HS.out _))
      go_wp2_with fail
      go_roundw
      case rel => exact ⟨k + 1, by omega, by go_num, HW.out _⟩
      case measure => simp [intOf]; omega
    · obtain rfl : n = k := by omega
      have hd : decide ((n : Int) < (n : Int)) = false := by simp
      go_wp2_with fail
      go_ret
      exact ⟨rfl, hw.out⟩
end Go.Proofs.YtkookkhlgllneaaDoor
