/-
  The walks of document.convert at words and of readLine (condition: a string of at most ten million bytes).
-/
import Derived.Test.YtmafefdchglpbaaDoorDocU
import Derived.Test.YtmafefdchglpbaaDoorSplA
import Derived.OwnWalk
import Derived.Laws.Entries
import Derived.Deep.MidRow
namespace Go.Proofs.YtmafefdchglpbaaDoor
open Go.RowKit

def spB : ByteArray := oneB 32
/-- the pieces of a string between spaces -/
def pcs (c : UInt8) (s : ByteArray) : List ByteArray := Lib.splitB (oneB c) 0 (Lib.countB s (oneB c)) s
theorem pcs_len (c : UInt8) (s : ByteArray) : (pcs c s).length = Lib.countB s (oneB c) + 1 := Lib.splitB_all (oneB c) (Nat.le_refl _) 0 _ s rfl
theorem own_shapeD {w : World} {base e size : Nat} {v : Value} {n : Nat} {xs : List Value} (h : w.ownsRow base e size v n xs) : ∃ sp cap, v = .slice sp n cap := by
  obtain ⟨_, ⟨rfl, rfl⟩ | ⟨g, cap, cur, rfl, _⟩⟩ := h
  · exact ⟨none, 0, rfl⟩
  · exact ⟨_, cap, rfl⟩
theorem own_baseD {w : World} {base e size : Nat} {v : Value} {n : Nat} {xs : List Value} (h : w.ownsRow base e size v n xs) : ∀ k, v.ownBlock = some k → base ≤ k := fun k hk => (h.lt k hk).1
theorem own_belowD {w w' : World} {B e size n : Nat} {v : Value} {xs : List Value} (h : w.ownsRow B e size v n xs) (hb : Below w.heap.size w w') : w'.ownsRow B e size v n xs := by
  obtain ⟨h0, h1 | ⟨g, cap, cur, h1, h2, h3, h4⟩⟩ := h
  · exact ⟨h0, .inl h1⟩
  · exact ⟨h0, .inr ⟨g, cap, cur, h1, h2, (hb.block g (Array.getElem?_eq_some_iff.1 h3).1).trans h3, h4⟩⟩
/-- append(own, one string) -/
theorem wpList_append_str {P : Program} {w : World} {ops : Array Oper} {rest : List Oper} {o : Oper} {a : Act} {Q : Exit → Act → World → Prop} (hgd : o.guard = none) (s x : Operand) (t e : TypeId)
    (ho : o.op = .call { callee := .builtin .append, args := #[s, x], argTypes := #[t, t] }) (ht : P.underlying t = some (.slice e)) (hi : (P.info? e).map (fun i => (i.zero, i.size, i.bytes)) = some (some (.string ByteArray.empty), 1, 16))
    (base : Nat) (v : Value) (xs : List ByteArray) (n : Nat) (hs : a.eval s = v) (hn : n = xs.length) (hown : w.ownsRow base e 1 v n (xs.map Value.string))
    (g : Nat) (y : ByteArray) (hx : a.eval x = .slice (some ⟨g, 0, none⟩) 1 1) (hc : w.cell? ⟨g, 0, none⟩ = some (.string y))
    (hlen : n ≤ 100000000) (hbase : base ≤ w.heap.size)
    (h : ∀ sp cap w', Hid (w'.ownsRow base e 1 (.slice sp (n + 1) cap) (n + 1) ((xs ++ [y]).map Value.string)) → w.grownBy w' v.ownBlock → wpList P ops Q rest (a.put o.dst (.slice sp (n + 1) cap)) w') : wpList P ops Q (o :: rest) a w := by
  obtain ⟨i0, hi0, hz0, hz1, hz2⟩ := info_parts hi
  refine wpList_append_own w hgd s x t ho base e i0 _ 1 16 ht hi0 hz0 hz1 hz2 rfl (by decide) v n _ hs hown ⟨g, 0, none⟩ 1 1 [.string y] hx rfl ?_ (by intro u hu; simp at hu; subst hu; rfl) (by unfold maxLen; omega) (by omega) hbase ?_
  · intro j u hj
    have hj0 : j = 0 := by have := (List.getElem?_eq_some_iff.1 hj).1; simp at this; omega
    subst hj0
    simp at hj; subst hj; rw [Addr.add_mid]; exact hc
  · intro v' w' h1 h2 _
    obtain ⟨sp, cap, rfl⟩ := own_shapeD h1
    exact h sp cap w' (by show World.ownsRow _ _ _ _ _ _ _; rw [List.map_append]; exact h1) h2
/-- what a word's text, what texts stand for -/
def unwS (s : ByteArray) : Option ByteArray := (unword s.data.toList).map fun m => ⟨m.toArray⟩
def unwsL : List ByteArray → Option (List ByteArray)
  | [] => some []
  | s :: r => match unwS s with
    | none => none
    | some x => (unwsL r).map (x :: ·)
theorem unwsL_none {s : ByteArray} {r : List ByteArray} (h : unwS s = none) : unwsL (s :: r) = none := by rw [unwsL, h]
theorem unwsL_some {s x : ByteArray} {r : List ByteArray} (h : unwS s = some x) : unwsL (s :: r) = (unwsL r).map (x :: ·) := by rw [unwsL, h]
theorem UnwS_any (s : ByteArray) (w : World) (hs : s.size ≤ 1099511627776) :
    Calls Tryd.prog 84 #[.string s] w fun e w' => (match unwS s with | some x => e = .returned (.tuple #[.string x, .bool true]) | none => e = .returned (.tuple #[.string ⟨#[]⟩, .bool false])) ∧ Below w.heap.size w w' :=
  (Unword_any s w hs).mono fun e w' h => by
    unfold UnwRes at h
    unfold unwS
    cases hu : unword s.data.toList with
    | none => rw [hu] at h; exact h
    | some l => rw [hu] at h; exact h
/-- what convert leaves -/
def ConvRes (w : World) (r : Option (List ByteArray)) (e : Ending) (w' : World) : Prop := match r with
  | none => e = .returned (.tuple #[.slice none 0 0, .bool false]) ∧ Below w.heap.size w w'
  | some xs => ∃ sp cap, e = .returned (.tuple #[.slice sp xs.length cap, .bool true]) ∧ w'.ownsRow w.heap.size 9 1 (.slice sp xs.length cap) xs.length (xs.map Value.string) ∧ Below w.heap.size w w'
theorem convRes_none {w : World} {r : Option (List ByteArray)} {e : Ending} {w' : World} (h : r = none) (he : e = .returned (.tuple #[.slice none 0 0, .bool false])) (hb : Below w.heap.size w w') : ConvRes w r e w' := by unfold ConvRes; rw [h]; exact ⟨he, hb⟩
set_option maxRecDepth 100000 in
set_option maxHeartbeats 1000000 in
theorem convW_any (g n : Nat) (ws : List ByteArray) (w : World) (hn : ws.length = n) (hn2 : n ≤ 10000001) (hg : g < w.heap.size) (hrow : ∀ j, j < n → w.cell? ⟨g, j, none⟩ = some (.string (ws.getD j ByteArray.empty))) (hsz : ∀ x ∈ ws, x.size ≤ 1099511627776) :
    Calls Tryd.prog 83 #[.slice (some ⟨g, 0, none⟩) n n, .func (.func 84) #[] #[]] w (ConvRes w (unwsL ws)) := by
  have HN := Lib.hid hn; have HROW := Lib.hid hrow; have HSZ := Lib.hid hsz
  obtain ⟨i0, hi0, hz0, hz1, hz2⟩ := info_parts infoStrS
  clear hn hrow hsz
  go_enter Tryd.func83, Tryd.ntmps83
  go_wp2_with (refine wpList_make_own w rfl _ _ 61 rfl w.heap.size 9 i0 _ 1 Tryd.underlying61 hi0 hz0 hz1 .i64 .i64 (n : Int) n rfl rfl rfl (by rw [hz2]; omega) (by unfold maxLen; omega) (Nat.le_refl _) ?_; intro w1 hown1 hg1)
  have HB1 := Lib.hid ((Below.refl w.heap.size w).grown hg1 (Nat.le_refl _) (fun k e => by cases e))
  have HO1 := Lib.hid hown1
  clear hg1 hown1 hi0 hz0 hz1 hz2
  go_loopw [6, 16] (fun v i wr => ∃ (k : Nat) (done : List ByteArray) (sp : Option Addr) (cap : Nat), k ≤ n ∧ i = .int .i64 k ∧ Hid (k = done.length) ∧ v = .slice sp k cap ∧ Hid (unwsL ws = (unwsL (ws.drop k)).map (done ++ ·)) ∧ Hid (wr.ownsRow w.heap.size 9 1 (.slice sp k cap) k (done.map Value.string)) ∧ Hid (Below w.heap.size w wr)) (fun _ i _ => n - (intOf i).toNat)
  case atStart => exact ⟨0, [], _, _, Nat.zero_le _, rfl, rfl, rfl, by show _ = _; simp, HO1.out, HB1.out⟩
  case round =>
    clear HO1 HB1
    obtain ⟨k, done, sp, cap, hk, rfl, HK, rfl, HR, hown, hbe⟩ := hrel
    have hbs := hbe.out.size
    by_cases hlt : k < n
    · have hd : decide ((k : Int) < (n : Int)) = true := by simp; omega
      have p1 : (0 : Int) ≤ (k : Int) := by omega
      have p2 : (k : Int) < (n : Int) := by omega
      have hlw : k < ws.length := by rw [HN.out]; exact hlt
      have c1 := (hbe.out.cell (p := ⟨g, k, none⟩) hg).trans (HROW.out k hlt)
      have hge : ws.getD k ByteArray.empty = ws[k] := by rw [List.getD_eq_getElem?_getD, List.getElem?_eq_getElem hlw]; rfl
      rw [hge] at c1
      have hdr : ws.drop k = ws[k] :: ws.drop (k + 1) := List.drop_eq_getElem_cons hlw
      have hc := fun w => UnwS_any ws[k] w (HSZ.out _ (List.getElem_mem hlw))
      obtain ⟨x, hx⟩ : ∃ x, ws[k] = x := ⟨_, rfl⟩
      rw [hx] at c1 hdr hc
      clear hge hx
      cases hu : unwS x with
      | none =>
        have HX : Hid (unwsL ws = none) := by show _ = _; rw [HR.out, hdr, unwsL_none hu]; rfl
        rw [hu] at hc
        have HC := Lib.hid hc
        clear hc hu hdr
        go_wp2_with fail
        refine (HC.out _).mono ?_
        rintro e w6 ⟨rfl, b6⟩
        have B6 := Lib.hid (hbe.out.trans (b6.mono hbs))
        clear b6
        go_wp2_with fail
        go_ret2
        exact convRes_none HX.out rfl B6.out
      | some y =>
        have HX : Hid (unwsL ws = (unwsL (ws.drop (k + 1))).map ((done ++ [y]) ++ ·)) := by
          show _ = _
          rw [HR.out, hdr, unwsL_some hu, Option.map_map]
          congr 1
          funext z
          simp
        rw [hu] at hc
        have HC := Lib.hid hc
        clear hc hu hdr
        go_wp2_with fail
        refine (HC.out _).mono ?_
        rintro e w6 ⟨rfl, b6⟩
        have B6 := Lib.hid (hbe.out.trans (b6.mono hbs))
        have hz6 := B6.out.size
        have hown6 := Lib.hid (own_belowD hown.out b6)
        clear b6 c1
        go_wp2_with (first
          | (at_builtin; refine wpList_append_str rfl (.tmp 28) (.tmp 30) 61 9 rfl Tryd.underlying61 infoStrS w.heap.size _ done k rfl HK.out (hown6.out.alloc _) w6.heap.size y rfl (by simp) (by omega) (by simp; omega) ?_; intro sp5 cap5 w5 hown5 hg5))
        have hbe5 := (B6.out.alloc hz6 (.cells #[.string y] 9)).grown hg5 (by simp; omega) (own_baseD hown6.out)
        go_roundw
        case rel => exact ⟨k + 1, done ++ [y], sp5, cap5, by omega, by go_num, by show _ = _; rw [List.length_append, ← HK.out]; rfl, rfl, HX, hown5, hbe5⟩
        case measure => simp [intOf]; omega
    · obtain rfl : n = k := by omega
      have hd : decide ((n : Int) < (n : Int)) = false := by simp
      have HX : Hid (unwsL ws = some done) := by
        show _ = _
        rw [HR.out, List.drop_eq_nil_of_le (by rw [HN.out]; exact Nat.le_refl _)]; simp [unwsL]
      go_wp2_with fail
      go_ret2
      unfold ConvRes
      rw [HX.out]
      have h1 := hown.out
      have h2 := HK.out
      rw [h2] at h1 ⊢
      exact ⟨sp, cap, rfl, h1, hbe.out⟩
end Go.Proofs.YtmafefdchglpbaaDoor
