/-
  The walk of document.convert at lines (condition: at most ten million rows, each of at most ten million bytes).
-/
import Derived.Test.YtmafefdchglpbaaDoorDecB
import Derived.Test.YtmafefdchglpbaaDoorDocK
namespace Go.Proofs.YtmafefdchglpbaaDoor
open Go.RowKit

theorem own_apart {w : World} {b1 b2 e1 e2 s1 s2 : Nat} {v1 v2 : Value} {n1 n2 : Nat} {x1 x2 : List Value} (h1 : w.ownsRow b1 e1 s1 v1 n1 x1) (h2 : w.ownsRow b2 e2 s2 v2 n2 x2) (hne : e1 ≠ e2) : v1.ownBlock = none ∨ v1.ownBlock ≠ v2.ownBlock := by
  obtain ⟨_, ⟨rfl, _⟩ | ⟨g1, c1, u1, rfl, _, g1h, _⟩⟩ := h1
  · exact .inl rfl
  · obtain ⟨_, ⟨rfl, _⟩ | ⟨g2, c2, u2, rfl, _, g2h, _⟩⟩ := h2
    · exact .inr (by simp [Value.ownBlock])
    · refine .inr (fun e => hne ?_)
      have e' : g1 = g2 := by simpa [Value.ownBlock] using e
      subst e'
      rw [g1h] at g2h
      injection g2h with g2h
      injection g2h
theorem infoLn : (Tryd.prog.info? 61).map (fun i => (i.zero, i.size, i.bytes)) = some (some (.slice none 0 0), 1, 24) := by kernel_rfl
/-- append(own, one slice) -/
theorem wpList_append_ln {P : Program} {w : World} {ops : Array Oper} {rest : List Oper} {o : Oper} {a : Act} {Q : Exit → Act → World → Prop} (hgd : o.guard = none) (s x : Operand) (t e : TypeId)
    (ho : o.op = .call { callee := .builtin .append, args := #[s, x], argTypes := #[t, t] }) (ht : P.underlying t = some (.slice e)) (hi : (P.info? e).map (fun i => (i.zero, i.size, i.bytes)) = some (some (.slice none 0 0), 1, 24))
    (base : Nat) (v : Value) (xs : List Ln) (n : Nat) (hs : a.eval s = v) (hn : n = xs.length) (hown : w.ownsRow base e 1 v n (xs.map Ln.val))
    (g : Nat) (y : Ln) (hx : a.eval x = .slice (some ⟨g, 0, none⟩) 1 1) (hc : w.cell? ⟨g, 0, none⟩ = some y.val)
    (hlen : n ≤ 100000000) (hbase : base ≤ w.heap.size)
    (h : ∀ sp cap w', Hid (w'.ownsRow base e 1 (.slice sp (n + 1) cap) (n + 1) ((xs ++ [y]).map Ln.val)) → w.grownBy w' v.ownBlock → wpList P ops Q rest (a.put o.dst (.slice sp (n + 1) cap)) w') : wpList P ops Q (o :: rest) a w := by
  obtain ⟨i0, hi0, hz0, hz1, hz2⟩ := info_parts hi
  refine wpList_append_own w hgd s x t ho base e i0 _ 1 24 ht hi0 hz0 hz1 hz2 rfl (by decide) v n _ hs hown ⟨g, 0, none⟩ 1 1 [y.val] hx rfl ?_ (by intro u hu; simp at hu; subst hu; rfl) (by unfold maxLen; omega) (by omega) hbase ?_
  · intro j u hj
    have hj0 : j = 0 := by have := (List.getElem?_eq_some_iff.1 hj).1; simp at this; omega
    subst hj0
    simp at hj; subst hj; rw [Addr.add_mid]; exact hc
  · intro v' w' h1 h2 _
    obtain ⟨sp, cap, rfl⟩ := own_shapeD h1
    exact h sp cap w' (by show World.ownsRow _ _ _ _ _ _ _; rw [List.map_append]; exact h1) h2
/-- a line that the call owns -/
def LnOwn (w : World) (base : Nat) (q : Ln) : Prop := w.ownsRow base 9 1 (.slice q.sp q.n q.cap) q.n (q.l.map Value.string)
/-- what rows stand for -/
def unlL : List ByteArray → Option (List (List ByteArray))
  | [] => some []
  | s :: r => match unwsL (pcs 32 s) with
    | none => none
    | some x => (unlL r).map (x :: ·)
theorem unlL_none {s : ByteArray} {r : List ByteArray} (h : unwsL (pcs 32 s) = none) : unlL (s :: r) = none := by rw [unlL, h]
theorem unlL_some {s : ByteArray} {x : List ByteArray} {r : List ByteArray} (h : unwsL (pcs 32 s) = some x) : unlL (s :: r) = (unlL r).map (x :: ·) := by rw [unlL, h]
/-- what convert leaves -/
def ConvL (w : World) (r : Option (List (List ByteArray))) (e : Ending) (w' : World) : Prop := match r with
  | none => e = .returned (.tuple #[.slice none 0 0, .bool false]) ∧ Below w.heap.size w w'
  | some L => ∃ (sp : Option Addr) (cap : Nat) (ls : List Ln), wordsOf ls = L ∧ e = .returned (.tuple #[.slice sp ls.length cap, .bool true]) ∧ w'.ownsRow w.heap.size 61 1 (.slice sp ls.length cap) ls.length (ls.map Ln.val) ∧ (∀ q ∈ ls, LnOwn w' w.heap.size q) ∧ Below w.heap.size w w'
theorem convL_none {w : World} {r : Option (List (List ByteArray))} {e : Ending} {w' : World} (h : r = none) (he : e = .returned (.tuple #[.slice none 0 0, .bool false])) (hb : Below w.heap.size w w') : ConvL w r e w' := by unfold ConvL; rw [h]; exact ⟨he, hb⟩
set_option maxRecDepth 100000 in
set_option maxHeartbeats 1000000 in
theorem convLs_any (g n : Nat) (ws : List ByteArray) (w : World) (hn : ws.length = n) (hn2 : n ≤ 10000001) (hg : g < w.heap.size) (hrow : ∀ j, j < n → w.cell? ⟨g, j, none⟩ = some (.string (ws.getD j ByteArray.empty))) (hsz : ∀ x ∈ ws, x.size ≤ 10000000) :
    Calls Tryd.prog 62 #[.slice (some ⟨g, 0, none⟩) n n, .func (.func 63) #[] #[]] w (ConvL w (unlL ws)) := by
  have HN := Lib.hid hn; have HROW := Lib.hid hrow; have HSZ := Lib.hid hsz
  obtain ⟨i0, hi0, hz0, hz1, hz2⟩ := info_parts infoLn
  clear hn hrow hsz
  go_enter Tryd.func62, Tryd.ntmps62
  go_wp2_with (refine wpList_make_own w rfl _ _ 35 rfl w.heap.size 61 i0 _ 1 Tryd.underlying35 hi0 hz0 hz1 .i64 .i64 (n : Int) n rfl rfl rfl (by rw [hz2]; omega) (by unfold maxLen; omega) (Nat.le_refl _) ?_; intro w1 hown1 hg1)
  have HB1 := Lib.hid ((Below.refl w.heap.size w).grown hg1 (Nat.le_refl _) (fun k e => by cases e))
  have HO1 := Lib.hid hown1
  clear hg1 hown1 hi0 hz0 hz1 hz2
  go_loopw [6, 16] (fun v i wr => ∃ (k : Nat) (done : List Ln) (sp : Option Addr) (cap : Nat), k ≤ n ∧ i = .int .i64 k ∧ Hid (k = done.length) ∧ v = .slice sp k cap ∧ Hid (unlL ws = (unlL (ws.drop k)).map (wordsOf done ++ ·)) ∧ Hid (wr.ownsRow w.heap.size 61 1 (.slice sp k cap) k (done.map Ln.val)) ∧ Hid (∀ q ∈ done, LnOwn wr w.heap.size q) ∧ Hid (Below w.heap.size w wr)) (fun _ i _ => n - (intOf i).toNat)
  case atStart => exact ⟨0, [], _, _, Nat.zero_le _, rfl, rfl, rfl, by show _ = _; simp [wordsOf], HO1.out, (fun q hq => by cases hq), HB1.out⟩
  case round =>
    clear HO1 HB1
    obtain ⟨k, done, sp, cap, hk, rfl, HK, rfl, HR, hown, hea, hbe⟩ := hrel
    have hbs := hbe.out.size
    by_cases hlt : k < n
    · have hd : decide ((k : Int) < (n : Int)) = true := by simp; omega
      have p1 : (0 : Int) ≤ (k : Int) := by omega
      have p2 : (k : Int) < (n : Int) := by omega
      have hlw : k < ws.length := by rw [HN.out]; exact hlt
      have c1 := (hbe.out.cell (p := ⟨g, k, none⟩) hg).trans (HROW.out k hlt)
      have hge : ws.getD k ByteArray.empty = ws[k] := by rw [List.getD_eq_getElem?_getD, List.getElem?_eq_getElem hlw]; rfl
      rw [hge] at c1
      have hdr : ws.drop k = ws[k] :: ws.drop (k + 1) := List.drop_eq_getElem_cons hlw
      have hc := fun w => readLine_any ws[k] w (HSZ.out _ (List.getElem_mem hlw))
      obtain ⟨x, hx⟩ : ∃ x, ws[k] = x := ⟨_, rfl⟩
      rw [hx] at c1 hdr hc
      clear hge hx
      cases hu : unwsL (pcs 32 x) with
      | none =>
        have HX : Hid (unlL ws = none) := by show _ = _; rw [HR.out, hdr, unlL_none hu]; rfl
        rw [hu] at hc
        have HC : Hid (∀ w, Calls Tryd.prog 63 #[.string x] w fun e w' => e = .returned (.tuple #[.slice none 0 0, .bool false]) ∧ Below w.heap.size w w') := hc
        clear hc hu hdr
        go_wp2_with fail
        refine (HC.out _).mono ?_
        rintro e w6 ⟨rfl, b6⟩
        have B6 := Lib.hid (hbe.out.trans (b6.mono hbs))
        clear b6
        go_wp2_with fail
        go_ret2
        exact convL_none HX.out rfl B6.out
      | some xs =>
        rw [hu] at hc
        have HC : Hid (∀ w, Calls Tryd.prog 63 #[.string x] w fun e w' => ∃ sp cap, e = .returned (.tuple #[.slice sp xs.length cap, .bool true]) ∧ w'.ownsRow w.heap.size 9 1 (.slice sp xs.length cap) xs.length (xs.map Value.string) ∧ Below w.heap.size w w') := hc
        have HX : Hid (∀ y : Ln, y.l = xs → unlL ws = (unlL (ws.drop (k + 1))).map (wordsOf (done ++ [y]) ++ ·)) := by
          rintro y rfl
          rw [HR.out, hdr, unlL_some hu, Option.map_map]
          congr 1
          funext z
          simp [wordsOf]
        clear hc hu hdr
        go_wp2_with fail
        refine (HC.out _).mono ?_
        rintro e w6 ⟨sp6, cap6, rfl, o6, b6⟩
        have B6 := Lib.hid (hbe.out.trans (b6.mono hbs))
        have hz6 := B6.out.size
        have hown6 := Lib.hid (own_belowD hown.out b6)
        have HEA6 : Hid (∀ q ∈ done, LnOwn w6 w.heap.size q) := fun q hq => own_belowD (hea.out q hq) b6
        have HO6 : Hid (LnOwn w6 w.heap.size ⟨sp6, xs.length, cap6, xs⟩) := own_monoD o6 hbs
        have HX2 := Lib.hid (HX.out ⟨sp6, xs.length, cap6, xs⟩ rfl)
        clear b6 c1 o6 HX hea
        go_wp2_with (first
          | (at_builtin; refine wpList_append_ln rfl (.tmp 28) (.tmp 30) 35 61 rfl Tryd.underlying35 infoLn w.heap.size _ done k rfl HK.out (hown6.out.alloc _) w6.heap.size (⟨sp6, xs.length, cap6, xs⟩ : Ln) rfl (by simp [Ln.val]) (by omega) (by simp; omega) ?_; intro sp5 cap5 w5 hown5 hg5))
        have hbe5 := (B6.out.alloc hz6 (.cells #[.slice sp6 xs.length cap6] 61)).grown hg5 (by simp; omega) (own_baseD hown6.out)
        have HEA5 : Hid (∀ q ∈ done ++ [(⟨sp6, xs.length, cap6, xs⟩ : Ln)], LnOwn w5 w.heap.size q) := by
          intro q hq
          have hq6 : LnOwn w6 w.heap.size q := by
            rcases List.mem_append.1 hq with h | h
            · exact HEA6.out q h
            · rw [List.mem_singleton.1 h]; exact HO6.out
          exact World.ownsRow.kept (World.ownsRow.alloc hq6 _) hg5 (own_apart (w := w6) hq6 hown6.out (by decide))
        go_roundw
        case rel => exact ⟨k + 1, done ++ [(⟨sp6, xs.length, cap6, xs⟩ : Ln)], sp5, cap5, by omega, by go_num, by show _ = _; rw [List.length_append, ← HK.out]; rfl, rfl, HX2.out, hown5, HEA5.out, hbe5⟩
        case measure => simp [intOf]; omega
    · obtain rfl : n = k := by omega
      have hd : decide ((n : Int) < (n : Int)) = false := by simp
      have HX : Hid (unlL ws = some (wordsOf done)) := by
        show _ = _
        rw [HR.out, List.drop_eq_nil_of_le (by rw [HN.out]; exact Nat.le_refl _)]; simp [unlL]
      go_wp2_with fail
      go_ret2
      unfold ConvL
      rw [HX.out]
      have h1 := hown.out
      have h2 := HK.out
      rw [h2] at h1 ⊢
      exact ⟨sp, cap, done, rfl, rfl, h1, hea.out, hbe.out⟩
end Go.Proofs.YtmafefdchglpbaaDoor
