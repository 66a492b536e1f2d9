/-
  Plain mathematics: the steps of reading a pattern, and laws of memory for a row of parts (no program is named here but for its name space).
-/
import Derived.Test.YtkookkhlgllneaaDoorGa
import Derived.OwnWalk
import Derived.Laws.Entries
import Derived.Deep.MidRow
import Derived.IntWalk
import Derived.Deep.RegionHeld3
import Derived.Deep.OwnRows
import Derived.Lib.AppendStr
import Derived.Lib.UnsafeStr
import Derived.Lib.BufferWrite
import Derived.Laws.IdiomStrings
import Derived.WalkSmall
import Derived.BigQuiet
namespace Go.Proofs.YtkookkhlgllneaaDoor
open Go.RowKit

theorem rdP_cons_esc_end : rdP [92] = none := by simp [rdP]
theorem rdP_esc (y : UInt8) (r : List UInt8) : rdP (92 :: y :: r) = (rdP r).map (((0, (y.toNat : Int)) : Pt) :: ·) := by simp [rdP]
theorem rdP_ss (r : List UInt8) : rdP (42 :: 42 :: r) = (rdP r).map (((3, 120) : Pt) :: ·) := by simp [rdP]
theorem rdP_s (r : List UInt8) (h : r.head? ≠ some 42) : rdP (42 :: r) = (rdP r).map (((2, 120) : Pt) :: ·) := by
  cases r with
  | nil => simp [rdP]
  | cons y r' =>
    have hy : y ≠ 42 := fun e => h (by rw [e]; rfl)
    rw [rdP]; simp [hy]
theorem rdP_q (r : List UInt8) : rdP (63 :: r) = (rdP r).map (((1, 120) : Pt) :: ·) := by rw [rdP.eq_def]; simp
theorem rdP_c (x : UInt8) (r : List UInt8) (h1 : x ≠ 92) (h2 : x ≠ 42) (h3 : x ≠ 63) : rdP (x :: r) = (rdP r).map (((0, (x.toNat : Int)) : Pt) :: ·) := by rw [rdP.eq_def]; simp [h1, h2, h3]
theorem rdP_go {l : List UInt8} {k m : Nat} {done : List Pt} {q : Pt} (h : rdP l = (rdP (l.drop k)).map (done ++ ·)) (hs : rdP (l.drop k) = (rdP (l.drop (k + m))).map (q :: ·)) : rdP l = (rdP (l.drop (k + m))).map ((done ++ [q]) ++ ·) := by
  rw [h, hs, Option.map_map]
  congr 1
  funext x
  simp
theorem rdP_kinds : ∀ (n : Nat) (l : List UInt8), l.length ≤ n → ∀ ps, rdP l = some ps → (∀ q ∈ ps, q.1 ≤ 3) ∧ ps.length ≤ l.length
  | _, [], _, ps, h => by
    have : ps = [] := by simpa [rdP] using h.symm
    subst this; exact ⟨fun q hq => (by cases hq), Nat.le_refl _⟩
  | 0, x :: r, hn, _, _ => by simp at hn
  | n + 1, x :: r, hn, ps, h => by
    have key : ∀ (q : Pt) (r' : List UInt8), q.1 ≤ 3 → r'.length ≤ r.length → (rdP r').map (q :: ·) = some ps → (∀ q ∈ ps, q.1 ≤ 3) ∧ ps.length ≤ (x :: r).length := by
      intro q r' hq hr he
      cases hp : rdP r' with
      | none => rw [hp] at he; simp at he
      | some ps' =>
        rw [hp] at he
        have e : ps = q :: ps' := by simpa using he.symm
        obtain ⟨i1, i2⟩ := rdP_kinds n r' (by simp at hn; omega) ps' hp
        subst e
        exact ⟨fun u hu => (List.mem_cons.1 hu).elim (fun e => e ▸ hq) (i1 u), by simp; omega⟩
    by_cases h1 : x = 92
    · subst h1
      cases r with
      | nil => rw [rdP_cons_esc_end] at h; cases h
      | cons y r' => rw [rdP_esc] at h; exact key _ r' (by simp) (by simp) h
    · by_cases h2 : x = 42
      · subst h2
        by_cases h3 : r.head? = some 42
        · cases r with
          | nil => simp at h3
          | cons y r' =>
            obtain rfl : y = 42 := by simpa using h3
            rw [rdP_ss] at h; exact key _ r' (by simp) (by simp) h
        · rw [rdP_s r h3] at h; exact key _ r (by simp) (Nat.le_refl _) h
      · by_cases h3 : x = 63
        · subst h3; rw [rdP_q] at h; exact key _ r (by simp) (Nat.le_refl _) h
        · rw [rdP_c x r h1 h2 h3] at h; exact key _ r (by simp) (Nat.le_refl _) h
theorem patL_kinds {l : List UInt8} {ps : List Pt} (h : patL l = some ps) : (∀ q ∈ ps, q.1 ≤ 3) ∧ ps.length ≤ 200 ∧ rdP l = some ps := by
  unfold patL at h
  by_cases hc : l = [] ∨ 200 < l.length ∨ ¬ Lib.indexByte l 0 < 0
  · rw [if_pos hc] at h; cases h
  · rw [if_neg hc] at h
    obtain ⟨h1, h2⟩ := rdP_kinds l.length l (Nat.le_refl _) ps h
    exact ⟨h1, by omega, h⟩
theorem patL_of {l : List UInt8} (h1 : l ≠ []) (h2 : l.length ≤ 200) (h3 : Lib.indexByte l 0 < 0) : patL l = rdP l := by
  unfold patL
  rw [if_neg (by simp [h1, h3]; omega)]

/-- the cells of parts -/
def ptC (ps : List Pt) : List Value := ps.flatMap fun p => [.int .i64 (p.1 : Int), .int .u8 p.2]
theorem ptC_snoc (ps : List Pt) (q : Pt) : ptC (ps ++ [q]) = ptC ps ++ [.int .i64 (q.1 : Int), .int .u8 q.2] := by unfold ptC; rw [List.flatMap_append]; rfl
theorem ptC_length (ps : List Pt) : (ptC ps).length = ps.length * 2 := by
  induction ps with
  | nil => rfl
  | cons p r ih => unfold ptC at ih ⊢; rw [List.flatMap_cons, List.length_append, ih]; simp; omega
theorem ptC_at (ps : List Pt) (i : Nat) (h : i < ps.length) : (ptC ps)[2 * i]? = some (.int .i64 ((ps.getD i (0, 0)).1 : Int)) ∧ (ptC ps)[2 * i + 1]? = some (.int .u8 (ps.getD i (0, 0)).2) := by
  induction ps generalizing i with
  | nil => simp at h
  | cons p r ih =>
    match i with
    | 0 => exact ⟨rfl, rfl⟩
    | j + 1 =>
      have := ih j (by simpa using h)
      rw [show 2 * (j + 1) = 2 * j + 1 + 1 by omega]
      exact this
theorem own_shapeP {w : World} {base e size : Nat} {v : Value} {n : Nat} {xs : List Value} (h : w.ownsRow base e size v n xs) : ∃ sp cap, v = .slice sp n cap := by
  obtain ⟨_, ⟨rfl, rfl⟩ | ⟨g, cap, cur, rfl, _⟩⟩ := h
  · exact ⟨none, 0, rfl⟩
  · exact ⟨_, cap, rfl⟩
theorem own_baseP {w : World} {base e size : Nat} {v : Value} {n : Nat} {xs : List Value} (h : w.ownsRow base e size v n xs) : ∀ k, v.ownBlock = some k → base ≤ k := fun k hk => (h.lt k hk).1
theorem Tryd.infoPt : (Tryd.prog.info? 115).map (fun i => (i.zero, i.size, i.bytes)) = some (some (.agg #[.int .i64 0, .int .u8 0]), 2, 16) := by kernel_rfl
/-- append(own, one part) -/
theorem wpList_append_pt {P : Program} {w : World} {ops : Array Oper} {rest : List Oper} {o : Oper} {a : Act} {Q : Exit → Act → World → Prop} (hgd : o.guard = none) (s x : Operand) (t e : TypeId)
    (ho : o.op = .call { callee := .builtin .append, args := #[s, x], argTypes := #[t, t] }) (ht : P.underlying t = some (.slice e)) (hi : (P.info? e).map (fun i => (i.zero, i.size, i.bytes)) = some (some (.agg #[.int .i64 0, .int .u8 0]), 2, 16))
    (base : Nat) (v : Value) (ps : List Pt) (n : Nat) (hs : a.eval s = v) (hn : n = ps.length) (hown : w.ownsRow base e 2 v n (ptC ps))
    (g : Nat) (q : Pt) (hx : a.eval x = .slice (some ⟨g, 0, none⟩) 1 1) (hc0 : w.cell? ⟨g, 0, none⟩ = some (.int .i64 (q.1 : Int))) (hc1 : w.cell? ⟨g, 1, none⟩ = some (.int .u8 q.2))
    (hlen : n ≤ 1000000) (hbase : base ≤ w.heap.size)
    (h : ∀ sp cap w', Hid (w'.ownsRow base e 2 (.slice sp (n + 1) cap) (n + 1) (ptC (ps ++ [q]))) → w.grownBy w' v.ownBlock → wpList P ops Q rest (a.put o.dst (.slice sp (n + 1) cap)) w') : wpList P ops Q (o :: rest) a w := by
  obtain ⟨i0, hi0, hz0, hz1, hz2⟩ := info_parts hi
  refine wpList_append_own w hgd s x t ho base e i0 _ 2 16 ht hi0 hz0 hz1 hz2 rfl (by decide) v n _ hs hown ⟨g, 0, none⟩ 1 1 [.int .i64 (q.1 : Int), .int .u8 q.2] hx rfl ?_ (by intro u hu; simp at hu; rcases hu with rfl | rfl <;> rfl) (by unfold maxLen; omega) (by omega) hbase ?_
  · intro j u hj
    match j, hj with
    | 0, hj => simp at hj; subst hj; rw [Addr.add_mid]; exact hc0
    | 1, hj => simp at hj; subst hj; rw [Addr.add_mid]; exact hc1
  · intro v' w' h1 h2 _
    obtain ⟨sp, cap, rfl⟩ := own_shapeP h1
    exact h sp cap w' (by show World.ownsRow _ _ _ _ _ _ _; rw [ptC_snoc]; exact h1) h2
end Go.Proofs.YtkookkhlgllneaaDoor

namespace Go.Proofs.YtkookkhlgllneaaDoor
open Go.RowKit

def ReadRes (w : World) (l : List UInt8) (e : Ending) (w' : World) : Prop := match patL l with
  | none => e = .returned (.tuple #[.slice none 0 0, .bool false]) ∧ Below w.heap.size w w'
  | some ps => ∃ sp cap, e = .returned (.tuple #[.slice sp ps.length cap, .bool true]) ∧ w'.ownsRow w.heap.size 115 2 (.slice sp ps.length cap) ps.length (ptC ps) ∧ Below w.heap.size w w'
theorem readRes_none {w : World} {l : List UInt8} {e : Ending} {w' : World} (h : patL l = none) (he : e = .returned (.tuple #[.slice none 0 0, .bool false])) (hb : Below w.heap.size w w') : ReadRes w l e w' := by unfold ReadRes; rw [h]; exact ⟨he, hb⟩
theorem patL_nil (l : List UInt8) (h : l = [] ∨ 200 < l.length ∨ ¬ Lib.indexByte l 0 < 0) : patL l = none := by unfold patL; rw [if_pos h]
theorem drop_at (s : ByteArray) (k : Nat) (h : k < s.size) : s.data.toList.drop k = s[k] :: s.data.toList.drop (k + 1) := by
  rw [List.drop_eq_getElem_cons (by simpa using h)]; rfl
theorem ext_drop (s : ByteArray) (k : Nat) : (s.extract k s.size).data.toList = s.data.toList.drop k := by
  rw [ByteArray.data_extract, Array.toList_extract, List.extract_eq_take_drop]
  exact List.take_of_length_le (by rw [List.length_drop, ← Lib.size_eq]; exact Nat.le_refl _)
set_option maxRecDepth 100000 in
set_option maxHeartbeats 1000000 in
theorem read_any (s : ByteArray) (w : World) :
    Calls Tryd.prog 83 #[.string s] w (ReadRes w s.data.toList) := by
  by_cases he : s.size = 0
  · have HN := Lib.hid (patL_nil s.data.toList (.inl (List.eq_nil_of_length_eq_zero (by rw [← Lib.size_eq]; exact he))))
    have hl : s.toList = [] := by rw [Lib.toList_data]; exact List.eq_nil_of_length_eq_zero (by rw [← Lib.size_eq]; exact he)
    go_enter Tryd.func83, Tryd.ntmps83
    go_wp2_with fail
    go_ret2
    exact readRes_none HN.out rfl (Below.refl _ _)
  have hl : (s.toList == []) = false := by
    rw [Lib.toList_data, beq_eq_false_iff_ne]; intro e; apply he; rw [Lib.size_eq, e]; rfl
  have hl2 : ¬ s.toList = [] := by simpa using hl
  by_cases h200 : 200 < s.size
  · have HN := Lib.hid (patL_nil s.data.toList (.inr (.inl (by rw [← Lib.size_eq]; exact h200))))
    have hd : decide ((s.size : Int) > 200) = true := by simp; omega
    go_enter Tryd.func83, Tryd.ntmps83
    go_wp2_with fail
    go_ret2
    exact readRes_none HN.out rfl (Below.refl _ _)
  have hd : decide ((s.size : Int) > 200) = false := by simp; omega
  obtain ⟨v, hv⟩ : ∃ v, Lib.indexByte s.data.toList 0 = v := ⟨_, rfl⟩
  have hc : ∀ w, Calls Tryd.prog 98 #[.string s, .int .u8 0] w fun e w' => e = .returned (.int .i64 v) ∧ w = w' := fun w => (indexByte_anyP s 0 w).mono fun e w' ⟨he, hw⟩ => ⟨by rw [he, ← hv]; rfl, hw⟩
  have HC := Lib.hid hc; clear hc
  by_cases h0 : v < 0
  · have HP := Lib.hid (patL_of (l := s.data.toList) (fun e => he (by rw [Lib.size_eq, e]; rfl)) (by rw [← Lib.size_eq]; omega) (by rw [hv]; exact h0))
    have hd2 : decide (v ≥ 0) = false := by simp; omega
    have hi := Tryd.infoPt
    have hsz : s.size ≤ 200 := by omega
    clear hv
    go_enter Tryd.func83, Tryd.ntmps83
    go_wp2_with fail
    refine (HC.out _).mono ?_
    rintro e w' ⟨rfl, rfl⟩
    obtain ⟨i0, hi0, hz0, hz1, hz2⟩ := info_parts hi
    have HB0 := Lib.hid (Below.refl w.heap.size w)
    go_wp2_with (refine wpList_make_own w rfl _ _ 103 rfl w.heap.size 115 i0 _ 2 Tryd.underlying103 hi0 hz0 hz1 .i64 .i64 (s.size : Int) s.size rfl rfl rfl (by rw [hz2]; omega) (by unfold maxLen; omega) (Nat.le_refl _) ?_; intro w1 hown1 hg1)
    have HB1 := Lib.hid ((Below.refl w.heap.size w).grown hg1 (Nat.le_refl _) (fun k e => by cases e))
    have HO1 := Lib.hid hown1
    clear hg1 hown1 hi hi0 hz0 hz1 hz2 HC h0 hd2 hl hl2 hd h200 he
    go_loopw [4, 5] (fun v i wr => ∃ (k N : Nat) (done : List Pt) (sp : Option Addr) (cap : Nat), k ≤ s.size ∧ i = .int .i64 k ∧ N ≤ k ∧ Hid (N = done.length) ∧ v = .slice sp N cap ∧ Hid (rdP s.data.toList = (rdP (s.data.toList.drop k)).map (done ++ ·)) ∧ Hid (wr.ownsRow w.heap.size 115 2 (.slice sp N cap) N (ptC done)) ∧ Hid (Below w.heap.size w wr)) (fun _ i _ => s.size - (intOf i).toNat)
    case atStart => exact ⟨0, 0, [], _, _, Nat.zero_le _, rfl, Nat.le_refl _, rfl, rfl, by show _ = _; simp, HO1.out, HB1.out⟩
    case round =>
      clear HO1 HB1
      obtain ⟨k, N, done, sp, cap, hk, rfl, hNk, HN, rfl, HR, hown, hbe⟩ := hrel
      have hbs := hbe.out.size
      by_cases hlt : k < s.size
      · have hd : decide ((k : Int) < (s.size : Int)) = true := by simp; omega
        have p1 : (0 : Int) ≤ (k : Int) := by omega
        have p2 : (k : Int) < (s.size : Int) := by omega
        have p3 : (k : Int) ≤ (s.size : Int) := by omega
        have HD := Lib.hid (drop_at s k hlt)
        by_cases c92 : s[k] = 92
        · have HC := Lib.hid c92
          have t92 : ((s[k].toNat : Int) == 92) = true := by rw [c92]; rfl
          by_cases hend : k + 1 = s.size
          · have hx : ((k : Int) + 1 == (s.size : Int)) = true := by rw [beq_iff_eq]; omega
            have HX : Hid (patL s.data.toList = none) := by
              show _ = _
              rw [HP.out, HR.out, HD.out, c92, List.drop_eq_nil_of_le (by rw [← Lib.size_eq]; omega), rdP_cons_esc_end]; rfl
            have hend2 : ((s.size : Int) = (k : Int) + 1) := by omega
            clear c92 hend hend2
            go_wp2_with fail
            go_ret2
            exact readRes_none HX.out rfl hbe.out
          · have hx : ((k : Int) + 1 == (s.size : Int)) = false := by rw [beq_eq_false_iff_ne]; omega
            have hlt2 : k + 1 < s.size := by omega
            have q1 : (0 : Int) ≤ (k : Int) + 1 := by omega
            have q2 : (k : Int) + 1 < (s.size : Int) := by omega
            have q3 : ((k : Int) + 1).toNat = k + 1 := by omega
            have HST : Hid (rdP s.data.toList = (rdP (s.data.toList.drop (k + 1 + 1))).map ((done ++ [((0, ((s[k + 1]).toNat : Int)) : Pt)]) ++ ·)) := by
              show _ = _
              refine rdP_go (m := 1 + 1) HR.out ?_
              rw [HD.out, c92, drop_at s (k + 1) hlt2, rdP_esc]
            clear c92 hend
            go_wp2_with (first
              | (at_builtin; refine wpList_append_pt rfl (.tmp 53) (.tmp 58) 103 115 rfl Tryd.underlying103 Tryd.infoPt w.heap.size _ done N rfl HN.out (hown.out.alloc _) wr.heap.size ((0, ((s[k + 1]).toNat : Int)) : Pt) rfl (by simp) (by simp) (by omega) (by simp; omega) ?_; intro sp5 cap5 w5 hown5 hg5))
            have hbe5 := (hbe.out.alloc hbs _).grown hg5 (by simp; omega) (own_baseP hown.out)
            go_roundw
            case rel => exact ⟨k + 1 + 1, N + 1, done ++ [((0, ((s[k + 1]).toNat : Int)) : Pt)], sp5, cap5, by omega, by go_num, by omega, by show _ = _; rw [List.length_append, ← HN.out]; rfl, rfl, HST.out, hown5, hbe5⟩
            case measure => simp [intOf]; omega
        · have t92 : ((s[k].toNat : Int) == 92) = false := by
            rw [beq_eq_false_iff_ne]; intro e; apply c92; apply UInt8.toNat_inj.1; show s[k].toNat = 92; omega
          have HPX := Lib.hid (fun w => prefix_any (s.extract k s.size) w (by rw [ByteArray.size_extract]; omega))
          have HT : Hid ((s.extract k s.size).data.toList.take 2 = s[k] :: (s.data.toList.drop (k + 1)).take 1) := by
            show _ = _; rw [ext_drop, HD.out]; rfl
          by_cases c42 : s[k] = 42
          · have t42 : ((s[k].toNat : Int) == 42) = true := by rw [c42]; rfl
            by_cases h42 : (s.data.toList.drop (k + 1)).head? = some 42
            · have hlt2 : k + 1 < s.size := by
                rcases Nat.lt_or_ge (k + 1) s.size with h | h
                · exact h
                · rw [List.drop_eq_nil_of_le (by rw [← Lib.size_eq]; omega)] at h42; cases h42
              have h42b : s[k + 1] = 42 := by rw [drop_at s (k + 1) hlt2] at h42; simpa using h42
              have HB : Hid (decide ((s.extract k s.size).data.toList.take 2 = [42, 42]) = true) := by
                show _ = _; rw [HT.out, c42, drop_at s (k + 1) hlt2, h42b]; rfl
              have HST : Hid (rdP s.data.toList = (rdP (s.data.toList.drop (k + 1 + 1))).map ((done ++ [((3, 120) : Pt)]) ++ ·)) := by
                show _ = _
                refine rdP_go (m := 1 + 1) HR.out ?_
                rw [HD.out, c42, drop_at s (k + 1) hlt2, h42b, rdP_ss]
              have hcall : ∀ w, Calls Tryd.prog 125 #[.string (s.extract k s.size), .string stB] w fun e w' => e = .returned (.bool true) ∧ w = w' := fun w => (HPX.out w).mono fun e w' ⟨he, hw⟩ => ⟨by rw [he, HB.out], hw⟩
              have HCL := Lib.hid hcall
              clear hcall c92 c42 h42 h42b
              go_wp2_with (first
                | (at_builtin; refine wpList_append_pt rfl (.tmp 67) (.tmp 69) 103 115 rfl Tryd.underlying103 Tryd.infoPt w.heap.size _ done N rfl HN.out (hown.out.alloc _) wr.heap.size ((3, 120) : Pt) rfl (by simp) (by simp) (by omega) (by simp; omega) ?_; intro sp5 cap5 w5 hown5 hg5)
                | (go_at_call 125; refine (HCL.out _).mono ?_; rintro e w6 ⟨rfl, rfl⟩))
              have hbe5 := (hbe.out.alloc hbs _).grown hg5 (by simp; omega) (own_baseP hown.out)
              go_roundw
              case rel => exact ⟨k + 1 + 1, N + 1, done ++ [((3, 120) : Pt)], sp5, cap5, by omega, by go_num, by omega, by show _ = _; rw [List.length_append, ← HN.out]; rfl, rfl, HST.out, hown5, hbe5⟩
              case measure => simp [intOf]; omega
            · have HB : Hid (decide ((s.extract k s.size).data.toList.take 2 = [42, 42]) = false) := by
                show _ = _; rw [HT.out, decide_eq_false_iff_not]
                intro e
                apply h42
                cases hh : s.data.toList.drop (k + 1) with
                | nil => rw [hh] at e; simp at e
                | cons y r => rw [hh] at e; simp at e; rw [e.2]; rfl
              have HST : Hid (rdP s.data.toList = (rdP (s.data.toList.drop (k + 1))).map ((done ++ [((2, 120) : Pt)]) ++ ·)) := by
                show _ = _
                refine rdP_go (m := 1) HR.out ?_
                rw [HD.out, c42, rdP_s _ h42]
              have hcall : ∀ w, Calls Tryd.prog 125 #[.string (s.extract k s.size), .string stB] w fun e w' => e = .returned (.bool false) ∧ w = w' := fun w => (HPX.out w).mono fun e w' ⟨he, hw⟩ => ⟨by rw [he, HB.out], hw⟩
              have HCL := Lib.hid hcall
              clear hcall c92 c42 h42
              go_wp2_with (first
                | (at_builtin; refine wpList_append_pt rfl (.tmp 76) (.tmp 78) 103 115 rfl Tryd.underlying103 Tryd.infoPt w.heap.size _ done N rfl HN.out (hown.out.alloc _) wr.heap.size ((2, 120) : Pt) rfl (by simp) (by simp) (by omega) (by simp; omega) ?_; intro sp5 cap5 w5 hown5 hg5)
                | (go_at_call 125; refine (HCL.out _).mono ?_; rintro e w6 ⟨rfl, rfl⟩))
              have hbe5 := (hbe.out.alloc hbs _).grown hg5 (by simp; omega) (own_baseP hown.out)
              go_roundw
              case rel => exact ⟨k + 1, N + 1, done ++ [((2, 120) : Pt)], sp5, cap5, by omega, by go_num, by omega, by show _ = _; rw [List.length_append, ← HN.out]; rfl, rfl, HST.out, hown5, hbe5⟩
              case measure => simp [intOf]; omega
          · have t42 : ((s[k].toNat : Int) == 42) = false := by
              rw [beq_eq_false_iff_ne]; intro e; apply c42; apply UInt8.toNat_inj.1; show s[k].toNat = 42; omega
            have HB : Hid (decide ((s.extract k s.size).data.toList.take 2 = [42, 42]) = false) := by
              show _ = _; rw [HT.out, decide_eq_false_iff_not]
              intro e; injection e with e1 e2; exact c42 e1
            have hcall : ∀ w, Calls Tryd.prog 125 #[.string (s.extract k s.size), .string stB] w fun e w' => e = .returned (.bool false) ∧ w = w' := fun w => (HPX.out w).mono fun e w' ⟨he, hw⟩ => ⟨by rw [he, HB.out], hw⟩
            have HCL := Lib.hid hcall
            clear hcall
            by_cases c63 : s[k] = 63
            · have t63 : ((s[k].toNat : Int) == 63) = true := by rw [c63]; rfl
              have HST : Hid (rdP s.data.toList = (rdP (s.data.toList.drop (k + 1))).map ((done ++ [((1, 120) : Pt)]) ++ ·)) := by
                show _ = _
                refine rdP_go (m := 1) HR.out ?_
                rw [HD.out, c63, rdP_q]
              clear c92 c42 c63
              go_wp2_with (first
                | (at_builtin; refine wpList_append_pt rfl (.tmp 85) (.tmp 87) 103 115 rfl Tryd.underlying103 Tryd.infoPt w.heap.size _ done N rfl HN.out (hown.out.alloc _) wr.heap.size ((1, 120) : Pt) rfl (by simp) (by simp) (by omega) (by simp; omega) ?_; intro sp5 cap5 w5 hown5 hg5)
                | (go_at_call 125; refine (HCL.out _).mono ?_; rintro e w6 ⟨rfl, rfl⟩))
              have hbe5 := (hbe.out.alloc hbs _).grown hg5 (by simp; omega) (own_baseP hown.out)
              go_roundw
              case rel => exact ⟨k + 1, N + 1, done ++ [((1, 120) : Pt)], sp5, cap5, by omega, by go_num, by omega, by show _ = _; rw [List.length_append, ← HN.out]; rfl, rfl, HST.out, hown5, hbe5⟩
              case measure => simp [intOf]; omega
            · have t63 : ((s[k].toNat : Int) == 63) = false := by
                rw [beq_eq_false_iff_ne]; intro e; apply c63; apply UInt8.toNat_inj.1; show s[k].toNat = 63; omega
              have HST : Hid (rdP s.data.toList = (rdP (s.data.toList.drop (k + 1))).map ((done ++ [((0, ((s[k]).toNat : Int)) : Pt)]) ++ ·)) := by
                show _ = _
                refine rdP_go (m := 1) HR.out ?_
                rw [HD.out, rdP_c _ _ c92 c42 c63]
              clear c92 c42 c63
              go_wp2_with (first
                | (at_builtin; refine wpList_append_pt rfl (.tmp 27) (.tmp 32) 103 115 rfl Tryd.underlying103 Tryd.infoPt w.heap.size _ done N rfl HN.out (hown.out.alloc _) wr.heap.size ((0, ((s[k]).toNat : Int)) : Pt) rfl (by simp) (by simp) (by omega) (by simp; omega) ?_; intro sp5 cap5 w5 hown5 hg5)
                | (go_at_call 125; refine (HCL.out _).mono ?_; rintro e w6 ⟨rfl, rfl⟩))
              have hbe5 := (hbe.out.alloc hbs _).grown hg5 (by simp; omega) (own_baseP hown.out)
              go_roundw
              case rel => exact ⟨k + 1, N + 1, done ++ [((0, ((s[k]).toNat : Int)) : Pt)], sp5, cap5, by omega, by go_num, by omega, by show _ = _; rw [List.length_append, ← HN.out]; rfl, rfl, HST.out, hown5, hbe5⟩
              case measure => simp [intOf]; omega
      · obtain rfl : k = s.size := by omega
        have hd : decide ((s.size : Int) < (s.size : Int)) = false := by simp
        have HX : Hid (patL s.data.toList = some done) := by
          show _ = _
          rw [HP.out, HR.out, List.drop_eq_nil_of_le (by rw [← Lib.size_eq]; exact Nat.le_refl _)]; simp [rdP]
        go_wp2_with fail
        go_ret2
        unfold ReadRes
        rw [HX.out]
        have h1 := hown.out
        rw [HN.out] at h1 ⊢
        exact ⟨sp, cap, rfl, h1, hbe.out⟩
  · have HN := Lib.hid (patL_nil s.data.toList (.inr (.inr (by rw [hv]; exact h0))))
    have hd2 : decide (v ≥ 0) = true := by simp; omega
    clear hv
    go_enter Tryd.func83, Tryd.ntmps83
    go_wp2_with fail
    refine (HC.out _).mono ?_
    rintro e w' ⟨rfl, rfl⟩
    go_wp2_with fail
    go_ret2
    exact readRes_none HN.out rfl (Below.refl _ _)
end Go.Proofs.YtkookkhlgllneaaDoor

namespace Go.Proofs.YtkookkhlgllneaaDoor
open Go.RowKit

/-- a block that is a row of bools -/
def BRow (w : World) (g : Nat) (L : List Bool) : Prop := w.heap[g]? = some (.cells (L.map Value.bool).toArray 4 (0, 0))
theorem BRow.lt {w : World} {g : Nat} {L : List Bool} (h : BRow w g L) : g < w.heap.size := (Array.getElem?_eq_some_iff.1 h).1
theorem BRow.get {w : World} {g : Nat} {L : List Bool} (h : BRow w g L) (i : Nat) (hi : i < L.length) : w.cell? ⟨g, i, none⟩ = some (.bool (L.getD i false)) := by
  rw [cell_of_row w g i _ _ _ h]; simp [hi]
theorem BRow.free {w : World} {g : Nat} {L : List Bool} (h : BRow w g L) (i : Nat) : w.frozen? ⟨g, i, none⟩ = false := by
  unfold BRow at h; simp [World.frozen?, h]
theorem BRow.put {w : World} {g : Nat} {L : List Bool} (h : BRow w g L) (i : Nat) (b : Bool) : BRow (w.setCell ⟨g, i, none⟩ (.bool b)) g (L.set i b) := by
  unfold BRow at h ⊢
  simp [World.setCell, Array.getElem?_modify, h, List.map_set]
theorem BRow.below {w w' : World} {g B : Nat} {L : List Bool} (h : BRow w g L) (hb : Below B w w') (hg : g < B) : BRow w' g L := (hb.block g hg).trans h
theorem grown_below {a w w' : World} {row : Option Nat} (h : a.grownBy w row) (hb : Below w.heap.size w w') : a.grownBy w' row :=
  ⟨hb.os.trans h.os, hb.tape.trans h.tape, hb.output.trans h.output, Nat.le_trans h.size hb.size, fun k hk hn => (hb.block k (Nat.lt_of_lt_of_le hk h.size)).trans (h.block k hk hn)⟩
theorem grown_setP {a w : World} {g : Nat} (h : a.grownBy w (some g)) (i : Nat) (u : Value) : a.grownBy (w.setCell ⟨g, i, none⟩ u) (some g) :=
  ⟨h.os, h.tape, h.output, by simpa [World.setCell] using h.size, fun k hk hne => (Below.heap_setCell w ⟨g, i, none⟩ u k (by intro e; exact hne (by rw [e]))).trans (h.block k hk hne)⟩
/-- parts in memory -/
structure PIn (w : World) (bb : Nat) (ps : List Pt) : Prop where
  k : ∀ i, i < ps.length → w.cell? ⟨bb, i * 2, none⟩ = some (.int .i64 ((ps.getD i (0, 0)).1 : Int))
  c : ∀ i, i < ps.length → w.cell? ⟨bb, i * 2 + 1, none⟩ = some (.int .u8 (ps.getD i (0, 0)).2)
theorem PIn.grown {w w' : World} {bb g : Nat} {ps : List Pt} (h : PIn w bb ps) (hg : w.grownBy w' (some g)) (hb : bb < w.heap.size) (hne : bb ≠ g) : PIn w' bb ps :=
  ⟨fun i hi => (World.cell?_of_block (a := ⟨bb, i * 2, none⟩) (hg.block bb hb (by intro e; injection e with e; exact hne e))).trans (h.k i hi), fun i hi => (World.cell?_of_block (a := ⟨bb, i * 2 + 1, none⟩) (hg.block bb hb (by intro e; injection e with e; exact hne e))).trans (h.c i hi)⟩

set_option maxRecDepth 100000 in
set_option maxHeartbeats 1000000 in
theorem advance_any (g bb n cap : Nat) (ps : List Pt) (old : List Bool) (c : Int) (w : World) (hrow : BRow w g old) (hlen : old.length = n + 1) (hn : ps.length = n) (hn2 : n ≤ 200) (hcap : n ≤ cap) (hp : PIn w bb ps) (hbb : bb < w.heap.size) (hne : bb ≠ g) (hk3 : ∀ q ∈ ps, q.1 ≤ 3) :
    Calls Tryd.prog 133 #[.slice (some ⟨g, 0, none⟩) (n + 1) (n + 1), .slice (some ⟨bb, 0, none⟩) n cap, .int .u8 c] w fun e w' => e = .returned (.tuple #[]) ∧ BRow w' g (advL ps old c) ∧ w.grownBy w' (some g) := by
  have HN := Lib.hid hn; have HL := Lib.hid hlen; have HP := Lib.hid hp; have HROW := Lib.hid hrow; have HK := Lib.hid hk3
  have hgw := hrow.lt
  clear hn hlen hp hrow hk3
  go_enter Tryd.func133, Tryd.ntmps133
  go_wp2_with fail
  go_loopw [6, 12] (fun v i wr => ∃ k : Nat, k ≤ n ∧ i = .int .i64 k ∧ v = .bool (arr ps old c k) ∧ Hid (BRow wr g (wayA ps old c k)) ∧ Hid (w.grownBy wr (some g))) (fun _ i _ => n - (intOf i).toNat)
  case atStart => exact ⟨0, Nat.zero_le _, rfl, rfl, HROW.out, World.grownBy.refl _ _⟩
  case round =>
    obtain ⟨k, hk, rfl, rfl, hrow, hgr⟩ := hrel
    have hgz := hgr.out.size
    have hgz2 := hrow.out.lt
    by_cases hlt : k < n
    · have hd : decide ((k : Int) < (n : Int)) = true := by simp; omega
      have p1 : (0 : Int) ≤ (k : Int) := by omega
      have p2 : (k : Int) < (n : Int) := by omega
      have p3 : (k : Int) < (n : Int) + 1 := by omega
      have hP := HP.out.grown hgr.out hbb hne
      have c1 := hP.k k (by rw [HN.out]; exact hlt)
      have c2 := hP.c k (by rw [HN.out]; exact hlt)
      have c3 := hrow.out.get k (by rw [wayA_length _ _ _ _ (by rw [HN.out]; exact HL.out) (by rw [HN.out]; omega), HN.out]; omega)
      rw [wayA_get] at c3
      clear hP
      have hrl : k < (wayA ps old c k).length := by rw [wayA_length _ _ _ _ (by rw [HN.out]; exact HL.out) (by rw [HN.out]; omega), HN.out]; omega
      have HSET := Lib.hid (wayA_set ps old c k (by rw [HL.out]; omega))
      have hseq := fun h => nvc_seq (ps := ps) (old := old) (c := c) (i := k) (by rw [HN.out]; exact hlt) h
      have hone := fun h => nvc_one (ps := ps) (old := old) (c := c) (i := k) h
      have hmem : ps.getD k (0, 0) ∈ ps := by rw [List.getD_eq_getElem?_getD, List.getElem?_eq_getElem (by rw [HN.out]; exact hlt)]; exact List.getElem_mem _
      have hq3 := HK.out _ hmem
      obtain ⟨q, hq⟩ : ∃ q, ps.getD k (0, 0) = q := ⟨_, rfl⟩
      rw [hq] at c1 c2 hq3 hseq hone
      obtain ⟨ob, hob⟩ : ∃ b, old.getD k false = b := ⟨_, rfl⟩
      rw [hob] at c3 hseq hone
      obtain ⟨A, hA⟩ : ∃ b, arr ps old c k = b := ⟨_, rfl⟩
      rw [hA] at hseq hone ⊢
      obtain ⟨tk, htk⟩ : ∃ b, tkP q c = b := ⟨_, rfl⟩
      rw [htk] at hseq hone
      obtain ⟨sq, hsq⟩ : ∃ b, seqP q = b := ⟨_, rfl⟩
      rw [hsq] at hseq hone
      have HARR : Hid (arr ps old c (k + 1) = if sq = true then (A || (ob && tk)) else (ob && tk)) := by
        show _ = _
        cases sq
        · rw [if_neg (by simp)]; exact (hone rfl).2
        · rw [if_pos rfl, (hseq rfl).2]; exact (hseq rfl).1
      have HNV : Hid (nvc ps old c k = if sq = true then (A || (ob && tk)) else A) := by
        show _ = _
        cases sq
        · rw [if_neg (by simp)]; exact (hone rfl).1
        · rw [if_pos rfl]; exact (hseq rfl).1
      have HC1 := Lib.hid (fun w => takes_any q c w hq3)
      have HC2 := Lib.hid (fun w => sequence_any q w hq3)
      rw [htk] at HC1
      rw [hsq] at HC2
      have HF : Hid (∀ w1, wr.alloc (.cells #[.int .i64 (q.1 : Int), .int .u8 q.2] 115) = w1 → Below wr.heap.size wr w1 ∧ wr.heap.size < w1.heap.size ∧ w1.cell? ⟨wr.heap.size, 0, none⟩ = some (.int .i64 (q.1 : Int)) ∧ w1.cell? ⟨wr.heap.size, 1, none⟩ = some (.int .u8 q.2)) := by
        rintro w1 rfl
        have hb := heap_alloc_new wr (.cells #[.int .i64 (q.1 : Int), .int .u8 q.2] 115)
        exact ⟨(Below.refl _ _).alloc (Nat.le_refl _) _, by simp, by rw [cell_of_row _ _ 0 _ _ _ hb]; rfl, by rw [cell_of_row _ _ 1 _ _ _ hb]; rfl⟩
      have HEND : Hid (∀ w6 X, Below wr.heap.size wr w6 → X = nvc ps old c k → BRow (w6.setCell ⟨g, k, none⟩ (.bool X)) g (wayA ps old c (k + 1)) ∧ w.grownBy (w6.setCell ⟨g, k, none⟩ (.bool X)) (some g)) := by
        rintro w6 X hb rfl
        have h1 := (hrow.out.below hb hgz2).put k (nvc ps old c k)
        rw [HSET.out] at h1
        exact ⟨h1, grown_setP (grown_below hgr.out hb) _ _⟩
      have HCELL : Hid (∀ w6, Below wr.heap.size wr w6 → w6.cell? ⟨g, k, none⟩ = some (.bool ob) ∧ w6.frozen? ⟨g, k, none⟩ = false) := fun w6 hb =>
        ⟨(hb.cell (p := ⟨g, k, none⟩) hgz2).trans c3, (hrow.out.below hb hgz2).free k⟩
      clear hseq hone hmem hq hob hA htk hsq hrl hrow hgr
      cases ob
      · cases A <;> cases sq
        all_goals
          go_wp2_with fail
          generalize hw1 : World.alloc wr _ = w1
          obtain ⟨b1, s1, x1, x2⟩ := HF.out _ hw1
          clear hw1
          refine (HC2.out _).mono ?_
          rintro e w6 ⟨rfl, b6⟩
          have bw := b1.trans (b6.mono b1.size)
          obtain ⟨y1, y2⟩ := HCELL.out _ bw
          have BW := Lib.hid bw
          clear x1 x2 s1 b1 b6 bw c1 c2 c3
          go_wp2_with fail
          go_roundw
          case rel =>
            refine ⟨k + 1, by omega, by go_num, ?_, (HEND.out w6 _ BW.out (by rw [HNV.out]; rfl)).1, (HEND.out w6 _ BW.out (by rw [HNV.out]; rfl)).2⟩
            rw [HARR.out]; rfl
          case measure => simp [intOf]; omega
      · cases A <;> cases sq
        all_goals
          go_wp2_with fail
          generalize hw1 : World.alloc wr _ = w1
          obtain ⟨b1, s1, x1, x2⟩ := HF.out _ hw1
          clear hw1
          refine (HC1.out _).mono ?_
          rintro e w5 ⟨rfl, b5⟩
          have x3 := (b5.cell (p := ⟨wr.heap.size, 0, none⟩) s1).trans x1
          have x4 := (b5.cell (p := ⟨wr.heap.size, 1, none⟩) s1).trans x2
          have b15 := b1.trans (b5.mono b1.size)
          clear x1 x2
          go_wp2_with fail
          refine (HC2.out _).mono ?_
          rintro e w6 ⟨rfl, b6⟩
          have bw := b15.trans (b6.mono b15.size)
          obtain ⟨y1, y2⟩ := HCELL.out _ bw
          have BW := Lib.hid bw
          clear x3 x4 s1 b1 b5 b6 b15 bw c1 c2 c3
          go_wp2_with fail
          go_roundw
          case rel =>
            refine ⟨k + 1, by omega, by go_num, ?_, (HEND.out w6 _ BW.out (by rw [HNV.out]; rfl)).1, (HEND.out w6 _ BW.out (by rw [HNV.out]; rfl)).2⟩
            rw [HARR.out]; rfl
          case measure => simp [intOf]; omega
    · obtain rfl : k = n := by omega
      have hd : decide ((k : Int) < (k : Int)) = false := by simp
      have p1 : (0 : Int) ≤ (k : Int) := by omega
      have p3 : (k : Int) < (k : Int) + 1 := by omega
      have hrl : k < (wayA ps old c k).length := by rw [wayA_length _ _ _ _ (by rw [HN.out]; exact HL.out) (by rw [HN.out]; omega), HN.out]; omega
      have c3 := hrow.out.get k hrl
      have f3 := hrow.out.free k
      have HEND : Hid (∀ X, X = arr ps old c k → BRow (wr.setCell ⟨g, k, none⟩ (.bool X)) g (advL ps old c) ∧ w.grownBy (wr.setCell ⟨g, k, none⟩ (.bool X)) (some g)) := by
        rintro X rfl
        have h1 := hrow.out.put k (arr ps old c k)
        have hl := nvc_last ps old c
        rw [HN.out] at hl
        rw [← hl, wayA_set ps old c k (by rw [HL.out]; omega)] at h1
        have he := wayA_end ps old c (by rw [HN.out]; exact HL.out)
        rw [HN.out] at he
        rw [he] at h1
        rw [← hl]
        exact ⟨h1, grown_setP hgr.out _ _⟩
      obtain ⟨A, hA⟩ : ∃ b, arr ps old c k = b := ⟨_, rfl⟩
      rw [hA] at HEND ⊢
      obtain ⟨y, hy⟩ : ∃ y, (wayA ps old c k).getD k false = y := ⟨_, rfl⟩
      rw [hy] at c3
      clear hA hrl hy hrow hgr
      go_wp2_with fail
      go_end0
      exact ⟨rfl, HEND.out _ rfl⟩
end Go.Proofs.YtkookkhlgllneaaDoor

namespace Go.Proofs.YtkookkhlgllneaaDoor
open Go.RowKit

/-- a row of n times false, its value behind a name -/
def zBo (n : Nat) : Array Value := ((List.replicate n false).map Value.bool).toArray
theorem zBo_made (n : Nat) : madeCells #[Value.bool false] n = zBo n := by
  apply Array.ext'
  rw [toList_madeCells_one]; simp [zBo]
theorem makeB (n : Nat) (h : n ≤ 1000) (w : World) : (Instr.makeSlice 132 (.int .i64 ((n : Int) + 1)) (.int .i64 ((n : Int) + 1))).run Tryd.prog w = .ok (.slice (some ⟨w.heap.size, 0, none⟩) (n + 1) (n + 1)) (w.alloc (.cells (zBo (n + 1)) 4)) := by
  have h1 := run_make_row' (P := Tryd.prog) 132 4 (.bool false) 1 Tryd.underlying132 (by kernel_rfl) rfl .i64 .i64 (n + 1) (by omega) (by omega) w
  rw [zBo_made] at h1
  exact h1
theorem zBo_row (w : World) (n : Nat) : BRow (w.alloc (.cells (zBo n) 4)) w.heap.size (List.replicate n false) := heap_alloc_new w _
set_option maxRecDepth 100000 in
set_option maxHeartbeats 1000000 in
theorem conc_any (bb n cap : Nat) (ps : List Pt) (s : ByteArray) (w : World) (hn : ps.length = n) (hn2 : n ≤ 200) (hcap : n ≤ cap) (hp : PIn w bb ps) (hbb : bb < w.heap.size) (hk3 : ∀ q ∈ ps, q.1 ≤ 3) (hs : s.size ≤ 1000000) :
    Calls Tryd.prog 97 #[.slice (some ⟨bb, 0, none⟩) n cap, .string s] w fun e w' => e = .returned (.bool (concB ps s.data.toList)) ∧ Below w.heap.size w w' := by
  have hmk := makeB n (by omega)
  have HN := Lib.hid hn; have HP := Lib.hid hp; have HK := Lib.hid hk3
  have HZ : Hid (∀ w1, w.alloc (.cells ((zBo (n + 1)).setIfInBounds 0 (.bool true)) 4) = w1 → BRow w1 w.heap.size (wayI ps 1) ∧ Below w.heap.size w w1 ∧ w1.heap.size = w.heap.size + 1) := by
    rintro w1 rfl
    refine ⟨?_, (Below.refl _ _).alloc (Nat.le_refl _) _, by simp⟩
    have e : (zBo (n + 1)).setIfInBounds 0 (.bool true) = ((wayI ps 1).map Value.bool).toArray := by
      unfold wayI zBo; rw [hn]; simp [List.replicate_succ]; rfl
    rw [e]
    exact heap_alloc_new w _
  clear hn hp hk3
  have hz0 : (zBo (n + 1))[0]? = some (.bool false) := by simp [zBo]
  go_enter Tryd.func97, Tryd.ntmps97
  go_wp2_with fail
  generalize hw1 : World.alloc w _ = w1
  obtain ⟨hr1, hb1, hz1⟩ := HZ.out _ hw1
  have HR1 := Lib.hid hr1; have HB1 := Lib.hid hb1
  clear hw1 hr1 HZ hmk hz0
  have hw1s : w.heap.size < w1.heap.size := by omega
  clear hb1 hz1
  go_loopw [17] (fun i wr => ∃ k : Nat, k ≤ n ∧ i = .int .i64 k ∧ Hid (BRow wr w.heap.size (wayI ps (k + 1))) ∧ Hid (Below w.heap.size w wr)) (fun i _ => n - (intOf i).toNat)
  case atStart => exact ⟨0, Nat.zero_le _, rfl, HR1.out, HB1.out⟩
  case round =>
    clear HR1 HB1
    obtain ⟨k, hk, rfl, hrow, hbe⟩ := hrel
    have hgz := hbe.out.size
    have hgz2 := hrow.out.lt
    by_cases hlt : k < n
    · have hd : decide ((k : Int) < (n : Int)) = true := by simp; omega
      have p1 : (0 : Int) ≤ (k : Int) := by omega
      have p2 : (k : Int) < (n : Int) := by omega
      have p3 : (k : Int) < (n : Int) + 1 := by omega
      have p4 : (0 : Int) ≤ (k : Int) + 1 := by omega
      have p5 : (k : Int) + 1 < (n : Int) + 1 := by omega
      have p6 : ((k : Int) + 1).toNat = k + 1 := by omega
      have c1 := (hbe.out.cell (p := ⟨bb, k * 2, none⟩) hbb).trans (HP.out.k k (by rw [HN.out]; exact hlt))
      have c2 := (hbe.out.cell (p := ⟨bb, k * 2 + 1, none⟩) hbb).trans (HP.out.c k (by rw [HN.out]; exact hlt))
      have hwl : (wayI ps (k + 1)).length = n + 1 := by rw [wayI_length _ _ (by rw [HN.out]; omega), HN.out]
      have c3 := hrow.out.get k (by rw [hwl]; omega)
      rw [wayI_get ps (k + 1) k (by omega)] at c3
      have c4 := hrow.out.get (k + 1) (by rw [hwl]; omega)
      obtain ⟨y, hy⟩ : ∃ y, (wayI ps (k + 1)).getD (k + 1) false = y := ⟨_, rfl⟩
      rw [hy] at c4
      have HSET := Lib.hid (wayI_set ps (k + 1) (by rw [HN.out]; omega))
      have hsu := ini_succ ps k
      have hmem : ps.getD k (0, 0) ∈ ps := by rw [List.getD_eq_getElem?_getD, List.getElem?_eq_getElem (by rw [HN.out]; exact hlt)]; exact List.getElem_mem _
      have hq3 := HK.out _ hmem
      obtain ⟨q, hq⟩ : ∃ q, ps.getD k (0, 0) = q := ⟨_, rfl⟩
      rw [hq] at c1 c2 hq3 hsu
      obtain ⟨ob, hob⟩ : ∃ b, ini ps k = b := ⟨_, rfl⟩
      rw [hob] at c3 hsu
      obtain ⟨sq, hsq⟩ : ∃ b, seqP q = b := ⟨_, rfl⟩
      have HC2 := Lib.hid (fun w => sequence_any q w hq3)
      rw [hsq] at HC2 hsu
      have HSU := Lib.hid hsu
      have HF : Hid (∀ w1, wr.alloc (.cells #[.int .i64 (q.1 : Int), .int .u8 q.2] 115) = w1 → Below wr.heap.size wr w1 ∧ wr.heap.size < w1.heap.size ∧ w1.cell? ⟨wr.heap.size, 0, none⟩ = some (.int .i64 (q.1 : Int)) ∧ w1.cell? ⟨wr.heap.size, 1, none⟩ = some (.int .u8 q.2)) := by
        rintro w1 rfl
        have hb := heap_alloc_new wr (.cells #[.int .i64 (q.1 : Int), .int .u8 q.2] 115)
        exact ⟨(Below.refl _ _).alloc (Nat.le_refl _) _, by simp, by rw [cell_of_row _ _ 0 _ _ _ hb]; rfl, by rw [cell_of_row _ _ 1 _ _ _ hb]; rfl⟩
      have HEND : Hid (∀ w6 X, Below wr.heap.size wr w6 → X = ini ps (k + 1) → BRow (w6.setCell ⟨w.heap.size, k + 1, none⟩ (.bool X)) w.heap.size (wayI ps (k + 1 + 1)) ∧ Below w.heap.size w (w6.setCell ⟨w.heap.size, k + 1, none⟩ (.bool X))) := by
        rintro w6 X hb rfl
        have h1 := (hrow.out.below hb hgz2).put (k + 1) (ini ps (k + 1))
        rw [HSET.out] at h1
        exact ⟨h1, (hbe.out.trans (hb.mono hgz)).setCell (p := ⟨w.heap.size, k + 1, none⟩) (Nat.le_refl _) _⟩
      have HCELL : Hid (∀ w6, Below wr.heap.size wr w6 → w6.cell? ⟨w.heap.size, k + 1, none⟩ = some (.bool y) ∧ w6.frozen? ⟨w.heap.size, k + 1, none⟩ = false) := fun w6 hb =>
        ⟨(hb.cell (p := ⟨w.heap.size, k + 1, none⟩) hgz2).trans c4, (hrow.out.below hb hgz2).free (k + 1)⟩
      have f4 := hrow.out.free (k + 1)
      clear hwl hy hsu hmem hq hob hsq
      cases ob
      · clear HC2
        go_wp2_with fail
        go_roundw
        case rel =>
          have h := HEND.out wr false (Below.refl _ _) (by rw [HSU.out]; rfl)
          have hz : (wr.setCell ⟨w.heap.size, k + 1, none⟩ (.bool false)).heap.size = wr.heap.size := by simp [World.setCell]
          exact ⟨k + 1, by omega, by go_num, h.1.below ((Below.refl _ _).alloc (Nat.le_refl _) _) (by rw [hz]; exact hgz2), h.2.alloc (by rw [hz]; exact hgz) _⟩
        case measure => simp [intOf]; omega
      · clear c4 f4
        cases sq
        all_goals
          go_wp2_with fail
          generalize hw1 : World.alloc wr _ = w1
          obtain ⟨b1, s1, x1, x2⟩ := HF.out _ hw1
          clear hw1
          refine (HC2.out _).mono ?_
          rintro e w6 ⟨rfl, b6⟩
          have bw := b1.trans (b6.mono b1.size)
          obtain ⟨y1, y2⟩ := HCELL.out _ bw
          have BW := Lib.hid bw
          clear x1 x2 s1 b1 b6 bw c1 c2 c3
          go_wp2_with fail
          go_roundw
          case rel =>
            exact ⟨k + 1, by omega, by go_num, (HEND.out w6 _ BW.out (by rw [HSU.out]; rfl)).1, (HEND.out w6 _ BW.out (by rw [HSU.out]; rfl)).2⟩
          case measure => simp [intOf]; omega
    · obtain rfl : k = n := by omega
      have hd : decide ((k : Int) < (k : Int)) = false := by simp
      have HRI : Hid (BRow wr w.heap.size (runL ps (s.data.toList.take 0))) := by
        have h1 := hrow.out
        have he := wayI_end ps
        rw [HN.out] at he
        rw [he] at h1
        exact h1
      have HBI := hbe
      clear hrow hbe
      go_wp2_with fail
      go_loopw [37] (fun i wx => ∃ j : Nat, j ≤ s.size ∧ i = .int .i64 j ∧ Hid (BRow wx w.heap.size (runL ps (s.data.toList.take j))) ∧ Hid (Below w.heap.size w wx)) (fun i _ => s.size - (intOf i).toNat)
      case atStart => exact ⟨0, Nat.zero_le _, rfl, HRI.out, HBI.out⟩
      case round =>
        clear HRI HBI
        obtain ⟨j, hj, rfl, hrow, hbe⟩ := hrel
        have hgz := hbe.out.size
        have hgz2 := hrow.out.lt
        by_cases hlj : j < s.size
        · have hd2 : decide ((j : Int) < (s.size : Int)) = true := by simp; omega
          have q1 : (0 : Int) ≤ (j : Int) := by omega
          have q2 : (j : Int) < (s.size : Int) := by omega
          have hpw : PIn _ bb ps := ⟨fun i hi => (hbe.out.cell (p := ⟨bb, i * 2, none⟩) hbb).trans (HP.out.k i hi), fun i hi => (hbe.out.cell (p := ⟨bb, i * 2 + 1, none⟩) hbb).trans (HP.out.c i hi)⟩
          have HC := Lib.hid (advance_any w.heap.size bb k cap ps (runL ps (s.data.toList.take j)) (s[j].toNat : Int) _ hrow.out (by rw [runL_length, HN.out]) HN.out hn2 hcap hpw (by omega) (by omega) HK.out)
          have HSN : Hid (advL ps (runL ps (s.data.toList.take j)) (s[j].toNat : Int) = runL ps (s.data.toList.take (j + 1))) := by
            show _ = _
            rw [List.take_succ_eq_append_getElem (by simpa using hlj), runL_snoc]; rfl
          clear hpw
          go_wp2_with fail
          refine HC.out.mono ?_
          rintro e w6 ⟨rfl, hr6, hg6⟩
          rw [HSN.out] at hr6
          have HR6 := Lib.hid hr6
          have HB6 := Lib.hid (hbe.out.grown hg6 hgz (fun k e => by cases e; exact Nat.le_refl _))
          clear hr6 hg6
          go_wp2_with fail
          go_roundw
          case rel => exact ⟨j + 1, by omega, by go_num, HR6.out, HB6.out⟩
          case measure => simp [intOf]; omega
        · obtain rfl : j = s.size := by omega
          have hd2 : decide ((s.size : Int) < (s.size : Int)) = false := by simp
          have c3 := hrow.out.get k (by rw [runL_length, HN.out]; omega)
          rw [List.take_of_length_le (by rw [← Lib.size_eq]; exact Nat.le_refl _)] at c3
          have HX : Hid (concB ps s.data.toList = (runL ps s.data.toList).getD k false) := by show _ = _; unfold concB; rw [HN.out]
          obtain ⟨y, hy⟩ : ∃ y, (runL ps s.data.toList).getD k false = y := ⟨_, rfl⟩
          rw [hy] at c3 HX
          have p1 : (0 : Int) ≤ (k : Int) := by omega
          have p3 : (k : Int) < (k : Int) + 1 := by omega
          clear hy hrow
          go_wp2_with fail
          go_ret
          exact ⟨by rw [HX.out]; rfl, hbe.out⟩
end Go.Proofs.YtkookkhlgllneaaDoor

namespace Go.Proofs.YtkookkhlgllneaaDoor
open Go.RowKit

theorem rdP_ne {l : List UInt8} {ps : List Pt} (hl : l ≠ []) (h : rdP l = some ps) : ps ≠ [] := by
  have key : ∀ (q : Pt) (r : List UInt8), (rdP r).map (q :: ·) = some ps → ps ≠ [] := by
    intro q r he
    cases hp : rdP r with
    | none => rw [hp] at he; simp at he
    | some ps' => rw [hp] at he; intro e; rw [e] at he; simp at he
  cases l with
  | nil => exact absurd rfl hl
  | cons x r =>
    by_cases h1 : x = 92
    · subst h1
      cases r with
      | nil => rw [rdP_cons_esc_end] at h; cases h
      | cons y r' => rw [rdP_esc] at h; exact key _ _ h
    · by_cases h2 : x = 42
      · subst h2
        by_cases h3 : r.head? = some 42
        · cases r with
          | nil => simp at h3
          | cons y r' =>
            obtain rfl : y = 42 := by simpa using h3
            rw [rdP_ss] at h; exact key _ _ h
        · rw [rdP_s r h3] at h; exact key _ _ h
      · by_cases h3 : x = 63
        · subst h3; rw [rdP_q] at h; exact key _ _ h
        · rw [rdP_c x r h1 h2 h3] at h; exact key _ _ h
theorem patL_ne {l : List UInt8} {ps : List Pt} (h : patL l = some ps) : 0 < ps.length := by
  have h3 := (patL_kinds h).2.2
  have hl : l ≠ [] := by rintro rfl; unfold patL at h; simp at h
  have := rdP_ne hl h3
  cases ps with
  | nil => exact absurd rfl this
  | cons _ _ => simp
/-- parts that the call has read, in memory -/
theorem pIn_of_own {w : World} {base : Nat} {sp : Option Addr} {n cap : Nat} {ps : List Pt} (h : w.ownsRow base 115 2 (.slice sp n cap) n (ptC ps)) (hn : n = ps.length) (h0 : 0 < n) : ∃ g, sp = some ⟨g, 0, none⟩ ∧ base ≤ g ∧ g < w.heap.size ∧ n ≤ cap ∧ PIn w g ps := by
  obtain ⟨_, ⟨e, h1⟩ | ⟨g, cap', cur, e, hb, hh, hc, _, hsz, hx⟩⟩ := h
  · omega
  · injection e with e1 e2 e3
    subst e1 e3
    refine ⟨g, rfl, hb, (Array.getElem?_eq_some_iff.1 hh).1, hc, fun i hi => ?_, fun i hi => ?_⟩
    · have h1 := (ptC_at ps i hi).1
      rw [← hx, List.getElem?_take] at h1
      rw [cell_of_row w g _ _ _ _ hh, ← Array.getElem?_toList, Nat.mul_comm i 2]
      split at h1
      · exact h1
      · cases h1
    · have h1 := (ptC_at ps i hi).2
      rw [← hx, List.getElem?_take] at h1
      rw [cell_of_row w g _ _ _ _ hh, ← Array.getElem?_toList, Nat.mul_comm i 2]
      split at h1
      · exact h1
      · cases h1
theorem mtB_none {p s : ByteArray} (h : patL p.data.toList = none) : mtB p s = false := by unfold mtB; rw [h]
theorem mtB_some {p s : ByteArray} {ps : List Pt} (h : patL p.data.toList = some ps) : mtB p s = (pathB s && concB ps s.data.toList) := by unfold mtB; rw [h]
theorem pathB_size {s : ByteArray} (h : pathB s = true) : s.size ≤ 200 := by
  unfold pathB at h; simp at h; exact h.1.1
set_option maxRecDepth 100000 in
set_option maxHeartbeats 1000000 in
theorem Match_any (p s : ByteArray) (w : World) :
    Calls Tryd.prog 45 #[.string p, .string s] w fun e w' => e = .returned (.bool (mtB p s)) ∧ Below w.heap.size w w' := by
  have HR := Lib.hid (read_any p w)
  have HPA := Lib.hid (fun w => Path_any s w)
  cases hp : patL p.data.toList with
  | none =>
    have HM := Lib.hid (mtB_none (s := s) hp)
    have hR2 : Calls Tryd.prog 83 #[.string p] w fun e w' => e = .returned (.tuple #[.slice none 0 0, .bool false]) ∧ Below w.heap.size w w' := HR.out.mono fun e w' h => by unfold ReadRes at h; rw [hp] at h; exact h
    have HR2 := Lib.hid hR2
    clear hR2 hp HR
    go_enter Tryd.func45, Tryd.ntmps45
    go_wp2_with fail
    refine HR2.out.mono ?_
    rintro e w1 ⟨rfl, hb1⟩
    go_wp2_with fail
    go_ret
    exact ⟨by rw [HM.out]; rfl, hb1⟩
  | some ps =>
    have HM := Lib.hid (mtB_some (s := s) hp)
    obtain ⟨k3, k200, _⟩ := patL_kinds hp
    have h0 := patL_ne hp
    have hR2 : Calls Tryd.prog 83 #[.string p] w fun e w' => ∃ g cap, e = .returned (.tuple #[.slice (some ⟨g, 0, none⟩) ps.length cap, .bool true]) ∧ g < w'.heap.size ∧ ps.length ≤ cap ∧ PIn w' g ps ∧ Below w.heap.size w w' := HR.out.mono fun e w' h => by
      unfold ReadRes at h; rw [hp] at h
      obtain ⟨sp, cap, he, ho, hb⟩ := h
      obtain ⟨g, rfl, _, h2, h3, h4⟩ := pIn_of_own ho rfl h0
      exact ⟨g, cap, he, h2, h3, h4, hb⟩
    have HR2 := Lib.hid hR2
    have HK := Lib.hid k3
    have HCO : Hid (∀ (g cap : Nat) (w5 : World), ps.length ≤ cap → PIn w5 g ps → g < w5.heap.size → s.size ≤ 1000000 → Calls Tryd.prog 97 #[.slice (some ⟨g, 0, none⟩) ps.length cap, .string s] w5 fun e w' => e = .returned (.bool (concB ps s.data.toList)) ∧ Below w5.heap.size w5 w') :=
      fun g cap w5 h1 h2 h3 h4 => conc_any g ps.length cap ps s w5 rfl k200 h1 h2 h3 k3 h4
    clear hR2 hp HR k3
    obtain ⟨cb, hcb⟩ : ∃ b, concB ps s.data.toList = b := ⟨_, rfl⟩
    rw [hcb] at HCO HM
    obtain ⟨n, hn⟩ : ∃ n, ps.length = n := ⟨_, rfl⟩
    rw [hn] at HR2 HCO k200 h0
    clear hcb hn
    have hps := pathB_size (s := s)
    obtain ⟨pb, hpb⟩ : ∃ b, pathB s = b := ⟨_, rfl⟩
    rw [hpb] at HPA HM hps
    have HPS := Lib.hid hps
    clear hpb hps
    go_enter Tryd.func45, Tryd.ntmps45
    go_wp2_with fail
    refine HR2.out.mono ?_
    rintro e w1 ⟨g, cap, rfl, hg, hcap, hpi, hb1⟩
    have HPI := Lib.hid hpi; have HB1 := Lib.hid hb1
    clear hpi hb1
    go_wp2_with fail
    refine (HPA.out _).mono ?_
    rintro e w2 ⟨rfl, hb2⟩
    have HP2 : Hid (PIn w2 g ps) := ⟨fun i hi => (hb2.cell (p := ⟨g, i * 2, none⟩) hg).trans (HPI.out.k i hi), fun i hi => (hb2.cell (p := ⟨g, i * 2 + 1, none⟩) hg).trans (HPI.out.c i hi)⟩
    have HB2 := Lib.hid (HB1.out.trans (hb2.mono HB1.out.size))
    have hg2 : g < w2.heap.size := Nat.lt_of_lt_of_le hg hb2.size
    clear hb2
    cases pb
    · go_wp2_with fail
      go_ret
      exact ⟨by rw [HM.out]; rfl, HB2.out⟩
    · go_wp2_with fail
      refine (HCO.out g cap w2 hcap HP2.out hg2 (by have := HPS.out (by first | rfl | trivial); omega)).mono ?_
      rintro e w3 ⟨rfl, hb3⟩
      have HB3 := Lib.hid (HB2.out.trans (hb3.mono HB2.out.size))
      clear hb3
      go_wp2_with fail
      go_ret
      exact ⟨by rw [HM.out]; rfl, HB3.out⟩
end Go.Proofs.YtkookkhlgllneaaDoor

namespace Go.Proofs.YtkookkhlgllneaaDoor
open Go.RowKit

set_option maxHeartbeats 400000 in
theorem contains_anyP (s : ByteArray) (w : World) :
    Calls Tryd.prog 130 #[.string s, .string slB] w fun e w' => e = .returned (.bool (decide (Lib.indexB s slB ≥ 0))) ∧ w = w' := by
  go_enter Tryd.func130, Tryd.ntmps130
  go_wp2_with (go_at_call 152; refine (index_anyP _ _).mono ?_; rintro e w' ⟨rfl, rfl⟩)
  go_ret
  exact ⟨rfl, rfl⟩
def wkP : ByteArray := ⟨#[115, 114, 99, 47, 42, 46, 99]⟩
def wkA : ByteArray := ⟨#[115, 114, 99, 47, 97, 46, 99]⟩
def wkB : ByteArray := ⟨#[115, 114, 99, 47, 120, 47, 97, 46, 99]⟩
def wkC : ByteArray := ⟨#[97, 47, 98]⟩
theorem wk1 : mtB wkP wkA = true := by decide +kernel
theorem wk2 : mtB wkP wkB = false := by decide +kernel
theorem wk3 : pathB wkC = true := by decide +kernel
set_option maxHeartbeats 1000000 in
theorem awakeP_any (w : World) :
    Calls Tryd.prog 43 #[] w fun e w' => e = .returned (.bool true) ∧ Below w.heap.size w w' := by
  have h1 : ∀ w, Calls Tryd.prog 45 #[.string ⟨#[115, 114, 99, 47, 42, 46, 99]⟩, .string ⟨#[115, 114, 99, 47, 97, 46, 99]⟩] w fun e w' => e = .returned (.bool true) ∧ Below w.heap.size w w' := fun w => (Match_any wkP wkA w).mono fun e w' ⟨he, hb⟩ => ⟨by rw [he, wk1], hb⟩
  have h2 : ∀ w, Calls Tryd.prog 45 #[.string ⟨#[115, 114, 99, 47, 42, 46, 99]⟩, .string ⟨#[115, 114, 99, 47, 120, 47, 97, 46, 99]⟩] w fun e w' => e = .returned (.bool false) ∧ Below w.heap.size w w' := fun w => (Match_any wkP wkB w).mono fun e w' ⟨he, hb⟩ => ⟨by rw [he, wk2], hb⟩
  have h3 : ∀ w, Calls Tryd.prog 94 #[.string ⟨#[97, 47, 98]⟩] w fun e w' => e = .returned (.bool true) ∧ Below w.heap.size w w' := fun w => (Path_any wkC w).mono fun e w' ⟨he, hb⟩ => ⟨by rw [he, wk3], hb⟩
  have H1 := Lib.hid h1; have H2 := Lib.hid h2; have H3 := Lib.hid h3
  clear h1 h2 h3
  go_enter Tryd.func43, Tryd.ntmps43
  go_wp2_with fail
  refine (H1.out _).mono ?_
  rintro e w1 ⟨rfl, hb1⟩
  go_wp2_with fail
  refine (H2.out _).mono ?_
  rintro e w2 ⟨rfl, hb2⟩
  go_wp2_with fail
  refine (H3.out _).mono ?_
  rintro e w3 ⟨rfl, hb3⟩
  go_wp2_with fail
  go_ret
  exact ⟨rfl, (hb1.trans (hb2.mono hb1.size)).trans (hb3.mono (Nat.le_trans hb1.size hb2.size))⟩
end Go.Proofs.YtkookkhlgllneaaDoor

namespace Go.Proofs.YtkookkhlgllneaaDoor
open Go.RowKit

/-- whether a string begins with another one -/
def hasP (s p : ByteArray) : Bool := decide (s.data.toList.take p.size = p.data.toList)
def dirB (d : ByteArray) : Bool := (d.toList == []) || pathB d
def insB (d : ByteArray) : ByteArray := if d.toList == [] then ⟨#[]⟩ else d ++ slB
def movB (a b s : ByteArray) : ByteArray := insB b ++ s.extract (insB a).size s.size
def relOk (a b s : ByteArray) : Bool := dirB a && (dirB b && (pathB s && (hasP s (insB a) && pathB (movB a b s))))
def relB (a b s : ByteArray) : ByteArray := if relOk a b s = true then movB a b s else ⟨#[]⟩
theorem take_eqS (s p : ByteArray) : ((s.extract 0 p.size).toList == p.toList) = hasP s p := by
  unfold hasP
  rw [Lib.toList_data, Lib.toList_data, ByteArray.data_extract, Array.toList_extract, List.extract_eq_take_drop, List.drop_zero, Nat.sub_zero, Bool.eq_iff_iff, beq_iff_eq, decide_eq_true_iff]
theorem hasP_short {s p : ByteArray} (h : s.size < p.size) : hasP s p = false := by
  unfold hasP; rw [decide_eq_false_iff_not]; intro e
  have := congrArg List.length e; rw [List.length_take, ← Lib.size_eq, ← Lib.size_eq] at this; omega
theorem hasP_size {s p : ByteArray} (h : hasP s p = true) : p.size ≤ s.size := by
  rcases Nat.lt_or_ge s.size p.size with h1 | h1
  · rw [hasP_short h1] at h; cases h
  · exact h1
set_option maxHeartbeats 400000 in
theorem prefixLite_anyS (s p : ByteArray) (w : World) (hp : p.size ≤ 1000000) :
    Calls Tryd.prog 150 #[.string s, .string p] w fun e w' => e = .returned (.bool (hasP s p)) ∧ w = w' := by
  by_cases h2 : p.size ≤ s.size
  · have hd : decide ((s.size : Int) ≥ (p.size : Int)) = true := by simp; omega
    have hd2 : decide (p.size ≤ s.size) = true := by simp; omega
    have q0 : (0 : Int) ≤ (p.size : Int) := by omega
    have q1 : (p.size : Int) ≤ (s.size : Int) := by omega
    go_enter Tryd.func150, Tryd.ntmps150
    go_wp2_with fail
    go_ret
    exact ⟨ret_boolP (take_eqS s p), rfl⟩
  · have hd : decide ((s.size : Int) ≥ (p.size : Int)) = false := by simp; omega
    have HX := Lib.hid (hasP_short (s := s) (p := p) (by omega))
    go_enter Tryd.func150, Tryd.ntmps150
    go_wp2_with fail
    go_ret
    exact ⟨by rw [HX.out]; rfl, rfl⟩
set_option maxHeartbeats 400000 in
theorem cutLite_anyS (s p : ByteArray) (w : World) (hp : p.size ≤ 1000000) :
    Calls Tryd.prog 141 #[.string s, .string p] w fun e w' => e = .returned (if hasP s p = true then .tuple #[.string (s.extract p.size s.size), .bool true] else .tuple #[.string s, .bool false]) ∧ w = w' := by
  have HP := Lib.hid (fun w => prefixLite_anyS s p w hp)
  have hsz := hasP_size (s := s) (p := p)
  obtain ⟨b, hb⟩ : ∃ b, hasP s p = b := ⟨_, rfl⟩
  rw [hb] at HP hsz ⊢
  clear hb
  cases b
  · clear hsz
    rw [if_neg (by simp)]
    go_enter Tryd.func141, Tryd.ntmps141
    go_wp2_with fail
    refine (HP.out _).mono ?_
    rintro e w' ⟨rfl, rfl⟩
    go_wp2_with fail
    go_ret2
    exact ⟨rfl, rfl⟩
  · have h1 := hsz rfl
    have q0 : (0 : Int) ≤ (p.size : Int) := by omega
    have q1 : (p.size : Int) ≤ (s.size : Int) := by omega
    clear hsz
    rw [if_pos rfl]
    go_enter Tryd.func141, Tryd.ntmps141
    go_wp2_with fail
    refine (HP.out _).mono ?_
    rintro e w' ⟨rfl, rfl⟩
    go_wp2_with fail
    go_ret2
    exact ⟨rfl, rfl⟩
set_option maxHeartbeats 400000 in
theorem cut_anyS (s p : ByteArray) (w : World) (hp : p.size ≤ 1000000) :
    Calls Tryd.prog 111 #[.string s, .string p] w fun e w' => e = .returned (if hasP s p = true then .tuple #[.string (s.extract p.size s.size), .bool true] else .tuple #[.string s, .bool false]) ∧ w = w' := by
  have HP := Lib.hid (fun w => cutLite_anyS s p w hp)
  obtain ⟨b, hb⟩ : ∃ b, hasP s p = b := ⟨_, rfl⟩
  rw [hb] at HP ⊢
  clear hb
  cases b
  all_goals
    go_enter Tryd.func111, Tryd.ntmps111
    go_wp2_with fail
    refine (HP.out _).mono ?_
    rintro e w' ⟨rfl, rfl⟩
    go_wp2_with fail
    go_ret2
    exact ⟨rfl, rfl⟩
set_option maxHeartbeats 400000 in
theorem directory_any (d : ByteArray) (w : World) :
    Calls Tryd.prog 110 #[.string d] w fun e w' => e = .returned (.bool (dirB d)) ∧ Below w.heap.size w w' := by
  have HP := Lib.hid (fun w => Path_any d w)
  have hD : Hid (dirB d = ((d.toList == []) || pathB d)) := rfl
  by_cases h : (d.toList == []) = true
  · have HX : Hid (dirB d = true) := by show _ = _; rw [hD.out, h]; rfl
    go_enter Tryd.func110, Tryd.ntmps110
    go_wp2_with fail
    go_ret
    exact ⟨by rw [HX.out]; rfl, Below.refl _ _⟩
  · have h : (d.toList == []) = false := by simpa using h
    have HX : Hid (dirB d = pathB d) := by show _ = _; rw [hD.out, h]; rfl
    go_enter Tryd.func110, Tryd.ntmps110
    go_wp2_with fail
    refine (HP.out _).mono ?_
    rintro e w' ⟨rfl, hb⟩
    go_wp2_with fail
    go_ret
    exact ⟨by rw [HX.out]; rfl, hb⟩
set_option maxHeartbeats 400000 in
theorem inside_any (d : ByteArray) (w : World) (hd : d.size ≤ 1000000) :
    Calls Tryd.prog 112 #[.string d] w fun e w' => e = .returned (.string (insB d)) ∧ w = w' := by
  have hD : Hid (insB d = if d.toList == [] then ⟨#[]⟩ else d ++ slB) := rfl
  by_cases h : (d.toList == []) = true
  · have HX : Hid (insB d = ⟨#[]⟩) := by show _ = _; rw [hD.out, if_pos h]
    go_enter Tryd.func112, Tryd.ntmps112
    go_wp2_with fail
    go_ret
    exact ⟨by rw [HX.out]; rfl, rfl⟩
  · have HX : Hid (insB d = d ++ slB) := by show _ = _; rw [hD.out, if_neg h]
    have h : (d.toList == []) = false := by simpa using h
    have hsz : d.size + 1 ≤ 9223372036854775807 := by omega
    go_enter Tryd.func112, Tryd.ntmps112
    go_wp2_with fail
    go_ret
    exact ⟨by rw [HX.out]; rfl, rfl⟩
theorem insB_size (d : ByteArray) : (insB d).size ≤ d.size + 1 := by
  unfold insB
  split
  · exact Nat.zero_le _
  · rw [ByteArray.size_append]; exact Nat.le_refl _
theorem relB_ok {a b s : ByteArray} (h : relOk a b s = true) : relB a b s = movB a b s := by unfold relB; rw [if_pos h]
theorem relB_no {a b s : ByteArray} (h : relOk a b s = false) : relB a b s = ⟨#[]⟩ := by unfold relB; rw [if_neg (by rw [h]; simp)]
set_option maxRecDepth 100000 in
set_option maxHeartbeats 1000000 in
theorem Relocate_any (a b s : ByteArray) (w : World) (ha : a.size ≤ 1000) (hb : b.size ≤ 1000) (hs : s.size ≤ 1000) :
    Calls Tryd.prog 70 #[.string a, .string b, .string s] w fun e w' => e = .returned (.tuple #[.string (relB a b s), .bool (relOk a b s)]) ∧ Below w.heap.size w w' := by
  have hia := insB_size a
  have hib := insB_size b
  have H1 := Lib.hid (fun w => directory_any a w)
  have H2 := Lib.hid (fun w => directory_any b w)
  have H3 := Lib.hid (fun w => Path_any s w)
  have H4 := Lib.hid (fun w => inside_any a w (by omega))
  have H5 := Lib.hid (fun w => inside_any b w (by omega))
  have H6 := Lib.hid (fun w => cut_anyS s (insB a) w (by omega))
  have H7 := Lib.hid (fun w => Path_any (movB a b s) w)
  have HM : Hid (movB a b s = insB b ++ s.extract (insB a).size s.size) := rfl
  have HO : Hid (relOk a b s = (dirB a && (dirB b && (pathB s && (hasP s (insB a) && pathB (movB a b s)))))) := rfl
  have HNO := Lib.hid (fun h => relB_no (a := a) (b := b) (s := s) h)
  have HYES := Lib.hid (fun h => relB_ok (a := a) (b := b) (s := s) h)
  obtain ⟨r, hr⟩ : ∃ r, relB a b s = r := ⟨_, rfl⟩
  obtain ⟨ok, hok⟩ : ∃ r, relOk a b s = r := ⟨_, rfl⟩
  obtain ⟨d1, hd1⟩ : ∃ r, dirB a = r := ⟨_, rfl⟩
  obtain ⟨d2, hd2⟩ : ∃ r, dirB b = r := ⟨_, rfl⟩
  obtain ⟨p3, hp3⟩ : ∃ r, pathB s = r := ⟨_, rfl⟩
  obtain ⟨h4, hh4⟩ : ∃ r, hasP s (insB a) = r := ⟨_, rfl⟩
  obtain ⟨p5, hp5⟩ : ∃ r, pathB (movB a b s) = r := ⟨_, rfl⟩
  obtain ⟨mv, hmv⟩ : ∃ r, movB a b s = r := ⟨_, rfl⟩
  rw [hd1] at H1 HO
  rw [hd2] at H2 HO
  rw [hp3] at H3 HO
  rw [hh4] at H6 HO
  rw [hp5] at H7 HO
  rw [hok] at HO HNO HYES ⊢
  rw [hr] at HNO HYES ⊢
  rw [hmv] at H7 HM HYES
  obtain ⟨x, hx⟩ : ∃ x, s.extract (insB a).size s.size = x := ⟨_, rfl⟩
  have hxs : x.size ≤ 1000 := by rw [← hx, ByteArray.size_extract]; omega
  rw [hx] at H6 HM
  obtain ⟨ia, hia2⟩ : ∃ x, insB a = x := ⟨_, rfl⟩
  rw [hia2] at H4 H6 hia
  obtain ⟨ib, hib2⟩ : ∃ x, insB b = x := ⟨_, rfl⟩
  rw [hib2] at H5 HM hib
  clear hr hok hd1 hd2 hp3 hh4 hp5 hmv hx hia2 hib2
  have hs1 : ib.size + s.size ≤ 9223372036854775807 := by omega
  have hs2 : ib.size + x.size ≤ 9223372036854775807 := by omega
  have HNOX : Hid (ok = false → .returned (.tuple #[.string ⟨#[]⟩, .bool false]) = Ending.returned (.tuple #[.string r, .bool ok])) := fun h => by rw [HNO.out h, h]
  have HYESX : Hid (ok = true → .returned (.tuple #[.string (ib ++ x), .bool true]) = Ending.returned (.tuple #[.string r, .bool ok])) := fun h => by rw [HYES.out h, HM.out, h]
  go_enter Tryd.func70, Tryd.ntmps70
  go_wp2_with fail
  refine (H1.out _).mono ?_
  rintro e w1 ⟨rfl, b1⟩
  cases d1
  · go_wp2_with fail
    go_ret2
    exact ⟨HNOX.out HO.out, b1⟩
  go_wp2_with fail
  refine (H2.out _).mono ?_
  rintro e w2 ⟨rfl, b2⟩
  have b2 := b1.trans (b2.mono b1.size)
  cases d2
  · go_wp2_with fail
    go_ret2
    exact ⟨HNOX.out HO.out, b2⟩
  go_wp2_with fail
  refine (H3.out _).mono ?_
  rintro e w3 ⟨rfl, b3⟩
  have b3 := b2.trans (b3.mono b2.size)
  clear b1 b2
  cases p3
  · go_wp2_with fail
    go_ret2
    exact ⟨HNOX.out HO.out, b3⟩
  go_wp2_with fail
  refine (H4.out _).mono ?_
  rintro e w4 ⟨rfl, rfl⟩
  go_wp2_with fail
  refine (H6.out _).mono ?_
  cases h4
  · rw [if_neg (by simp)]
    rintro e w4 ⟨rfl, rfl⟩
    go_wp2_with fail
    refine (H5.out _).mono ?_
    rintro e w4 ⟨rfl, rfl⟩
    go_wp2_with fail
    go_ret2
    exact ⟨HNOX.out HO.out, b3⟩
  · rw [if_pos (by first | rfl | trivial)]
    rintro e w4 ⟨rfl, rfl⟩
    go_wp2_with fail
    refine (H5.out _).mono ?_
    rintro e w4 ⟨rfl, rfl⟩
    rw [HM.out] at H7
    go_wp2_with fail
    refine (H7.out _).mono ?_
    rintro e w5 ⟨rfl, b5⟩
    have b5 := b3.trans (b5.mono b3.size)
    cases p5
    · go_wp2_with fail
      go_ret2
      exact ⟨HNOX.out HO.out, b5⟩
    · go_wp2_with fail
      go_ret2
      exact ⟨HYESX.out HO.out, b5⟩
end Go.Proofs.YtkookkhlgllneaaDoor

namespace Go.Proofs.YtkookkhlgllneaaDoor
open Go.RowKit

/-- the text of a literal -/
def spB (c : UInt8) : Bool := c == 92 || c == 42 || c == 63
def lit1 (c : UInt8) : List UInt8 := if spB c = true then [92, c] else [c]
def litL (l : List UInt8) : List UInt8 := l.flatMap lit1
def litB (s : ByteArray) : ByteArray := if pathB s = true then ⟨(litL s.data.toList).toArray⟩ else ⟨#[]⟩
theorem litL_succ (s : ByteArray) (k : Nat) (h : k < s.size) : litL (s.data.toList.take (k + 1)) = litL (s.data.toList.take k) ++ lit1 s[k] := by
  unfold litL
  rw [List.take_succ_eq_append_getElem (by simpa using h), List.flatMap_append]; simp; rfl
theorem litL_le (l : List UInt8) : (litL l).length ≤ 2 * l.length := by
  induction l with
  | nil => simp [litL]
  | cons a t ih =>
    unfold litL at ih ⊢
    rw [List.flatMap_cons, List.length_append]
    have : (lit1 a).length ≤ 2 := by unfold lit1; split <;> simp
    simp only [List.length_cons]; omega
theorem sp_geF : ∀ c : Fin 256, decide (Lib.indexByte [92, 42, 63] (UInt8.ofNat c.val) ≥ 0) = spB (UInt8.ofNat c.val) := by decide +kernel
theorem sp_ge (c : UInt8) : decide (Lib.indexByte [92, 42, 63] c ≥ 0) = spB c := by
  have h := sp_geF ⟨c.toNat, UInt8.toNat_lt _⟩
  simpa using h
theorem Tryd.infoBy : (Tryd.prog.info? 5).map (fun i => (i.zero, i.size, i.bytes)) = some (some (.int .u8 0), 1, 1) := by kernel_rfl
/-- append(own, one byte) -/
theorem wpList_append_b1 {P : Program} {w : World} {ops : Array Oper} {rest : List Oper} {o : Oper} {a : Act} {Q : Exit → Act → World → Prop} (hgd : o.guard = none) (s x : Operand) (t e : TypeId)
    (ho : o.op = .call { callee := .builtin .append, args := #[s, x], argTypes := #[t, t] }) (ht : P.underlying t = some (.slice e)) (hi : (P.info? e).map (fun i => (i.zero, i.size, i.bytes)) = some (some (.int .u8 0), 1, 1))
    (base : Nat) (v : Value) (xs : List UInt8) (n : Nat) (hs : a.eval s = v) (hn : n = xs.length) (hown : w.ownsRow base e 1 v n (Lib.byteCells xs))
    (g : Nat) (y : UInt8) (hx : a.eval x = .slice (some ⟨g, 0, none⟩) 1 1) (hc : w.cell? ⟨g, 0, none⟩ = some (.int .u8 (y.toNat : Int)))
    (hlen : n ≤ 100000000) (hbase : base ≤ w.heap.size)
    (h : ∀ sp cap w', Hid (w'.ownsRow base e 1 (.slice sp (n + 1) cap) (n + 1) (Lib.byteCells (xs ++ [y]))) → w.grownBy w' v.ownBlock → wpList P ops Q rest (a.put o.dst (.slice sp (n + 1) cap)) w') : wpList P ops Q (o :: rest) a w := by
  obtain ⟨i0, hi0, hz0, hz1, hz2⟩ := info_parts hi
  refine wpList_append_own w hgd s x t ho base e i0 (.int .u8 0) 1 1 ht hi0 hz0 hz1 hz2 rfl (by decide) v n _ hs hown ⟨g, 0, none⟩ 1 1 [.int .u8 (y.toNat : Int)] hx rfl ?_ (by intro u hu; simp at hu; subst hu; rfl) (by unfold maxLen; omega) (by omega) hbase ?_
  · intro j u hj
    match j, hj with
    | 0, hj => simp at hj; subst hj; rw [Addr.add_mid]; exact hc
  · intro v' w' h1 h2 _
    obtain ⟨sp, cap, rfl⟩ := own_shapeP h1
    exact h sp cap w' (by show World.ownsRow _ _ _ _ _ _ _; rw [Lib.byteCells_append]; exact h1) h2
set_option maxRecDepth 100000 in
theorem run_string_ownP {w : World} {base e : Nat} {sp : Option Addr} {n cap : Nat} {l : List UInt8} (h : w.ownsRow base e 1 (.slice sp n cap) n (Lib.byteCells l)) (hn : n = l.length) :
    (convert 58 9 (.slice sp n cap)).run Tryd.prog w = .ok (.string ⟨l.toArray⟩) w := by
  subst hn
  obtain ⟨_, ⟨e, h0⟩ | ⟨g, cap', cur, e, hb, hg, hle, _, hsz, htk⟩⟩ := h
  · have : l = [] := List.eq_nil_of_length_eq_zero h0
    subst this
    injection e with e1 e2 e3
    subst e1 e3
    rw [List.length_nil, run_convert_bytes_string w 58 9 5 none 0 0 Tryd.underlying58 Tryd.underlying5 Tryd.underlying9]
    rfl
  · rw [e]
    refine run_convert_bytes_back w 58 9 5 _ cap' l Tryd.underlying58 Tryd.underlying5 Tryd.underlying9 (fun j hj => ?_)
    rw [Addr.add_mid, Nat.zero_add, cell_of_row w g j cur _ _ hg]
    have h1 : (cur.toList.take (l.length * 1))[j]? = some (.int .u8 (l[j].toNat : Int)) := by rw [htk]; simp [Lib.byteCells, List.getElem?_eq_getElem hj]
    rw [List.getElem?_take, if_pos (by omega)] at h1
    simpa using h1
set_option maxRecDepth 100000 in
set_option maxHeartbeats 1000000 in
theorem Literal_any (s : ByteArray) (w : World) :
    Calls Tryd.prog 46 #[.string s] w fun e w' => e = .returned (.string (litB s)) ∧ Below w.heap.size w w' := by
  have HP := Lib.hid (fun w => Path_any s w)
  have HL : Hid (litB s = if pathB s = true then ⟨(litL s.data.toList).toArray⟩ else ⟨#[]⟩) := rfl
  have hps := pathB_size (s := s)
  obtain ⟨pb, hpb⟩ : ∃ b, pathB s = b := ⟨_, rfl⟩
  rw [hpb] at HP HL hps
  clear hpb
  cases pb
  · clear hps
    have HX : Hid (litB s = ⟨#[]⟩) := by show _ = _; rw [HL.out, if_neg (by simp)]
    clear HL
    go_enter Tryd.func46, Tryd.ntmps46
    go_wp2_with fail
    refine (HP.out _).mono ?_
    rintro e w1 ⟨rfl, b1⟩
    go_wp2_with fail
    go_ret
    exact ⟨by rw [HX.out]; rfl, b1⟩
  · have hsz := hps rfl
    have HX : Hid (litB s = ⟨(litL s.data.toList).toArray⟩) := by show _ = _; rw [HL.out, if_pos rfl]
    clear HL hps
    go_enter Tryd.func46, Tryd.ntmps46
    go_wp2_with fail
    refine (HP.out _).mono ?_
    rintro e w1 ⟨rfl, b1⟩
    have HB1 := Lib.hid b1
    have hz1 := b1.size
    clear b1
    go_wp2_with fail
    go_loopw [3, 10] (fun v i wr => ∃ (k N : Nat) (sp : Option Addr) (cap : Nat), k ≤ s.size ∧ i = .int .i64 k ∧ N ≤ 400 ∧ Hid (N = (litL (s.data.toList.take k)).length) ∧ v = .slice sp N cap ∧ Hid (wr.ownsRow w.heap.size 5 1 (.slice sp N cap) N (Lib.byteCells (litL (s.data.toList.take k)))) ∧ Hid (Below w.heap.size w wr)) (fun _ i _ => s.size - (intOf i).toNat)
    case atStart => exact ⟨0, 0, none, 0, Nat.zero_le _, rfl, by omega, rfl, rfl, World.ownsRow_nil _ _ _ _, HB1.out⟩
    case round =>
      clear HB1
      obtain ⟨k, N, sp, cap, hk, rfl, hN4, HN, rfl, hown, hbe⟩ := hrel
      have hbs := hbe.out.size
      by_cases hlt : k < s.size
      · have hd : decide ((k : Int) < (s.size : Int)) = true := by simp; omega
        have p1 : (0 : Int) ≤ (k : Int) := by omega
        have p2 : (k : Int) < (s.size : Int) := by omega
        have HS := Lib.hid (litL_succ s k hlt)
        have hN5 : (litL (s.data.toList.take (k + 1))).length ≤ 400 := by
          have h1 := litL_le (s.data.toList.take (k + 1))
          have h2 : (s.data.toList.take (k + 1)).length ≤ k + 1 := List.length_take_le _ _
          omega
        rw [HS.out, List.length_append, ← HN.out] at hN5
        obtain ⟨T, hT⟩ : ∃ T, litL (s.data.toList.take k) = T := ⟨_, rfl⟩
        rw [hT] at HN hown HS
        clear hT
        have hc : ∀ w, Calls Tryd.prog 98 #[.string ⟨#[92, 42, 63]⟩, .int .u8 (s[k].toNat : Int)] w fun e w' => e = .returned (.int .i64 (Lib.indexByte [92, 42, 63] s[k])) ∧ w = w' := fun w => (indexByte_anyP ⟨#[92, 42, 63]⟩ (s[k].toNat : Int) w).mono fun e w' ⟨he, hw⟩ => ⟨by rw [he]; simp, hw⟩
        have hge := sp_ge s[k]
        obtain ⟨v, hv⟩ : ∃ v, Lib.indexByte [92, 42, 63] s[k] = v := ⟨_, rfl⟩
        rw [hv] at hc hge
        have HC := Lib.hid hc
        clear hv hc
        cases hsp : spB s[k]
        · rw [hsp] at hge
          have HL1 : Hid (lit1 s[k] = [s[k]]) := by show _ = _; unfold lit1; rw [if_neg (by rw [hsp]; simp)]
          rw [HL1.out] at hN5 HS
          clear hsp
          go_wp2_with (first
            | (at_builtin; refine wpList_append_b1 rfl (.tmp 21) (.tmp 25) 58 5 rfl Tryd.underlying58 Tryd.infoBy w.heap.size _ T N rfl HN.out (hown.out.alloc _) wr.heap.size s[k] rfl (by simp) (by omega) (by simp; omega) ?_; intro sp5 cap5 w5 hown5 hg5)
            | (go_at_call 98; refine (HC.out _).mono ?_; rintro e w6 ⟨rfl, rfl⟩))
          have hbe5 := (hbe.out.alloc hbs (.cells #[.int .u8 (s[k].toNat : Int)] 5)).grown hg5 (by simp; omega) (own_baseP hown.out)
          go_roundw
          case rel => exact ⟨k + 1, N + 1, sp5, cap5, by omega, by go_num, hN5, by show _ = _; rw [HS.out, List.length_append, ← HN.out]; rfl, rfl, by rw [HS.out]; exact hown5, hbe5⟩
          case measure => simp [intOf]; omega
        · rw [hsp] at hge
          have HL1 : Hid (lit1 s[k] = [92, s[k]]) := by show _ = _; unfold lit1; rw [if_pos hsp]
          rw [HL1.out] at hN5 HS
          clear hsp
          go_wp2_with (first
            | (at_builtin; refine wpList_append_b1 rfl (.tmp 18) (.tmp 19) 58 5 rfl Tryd.underlying58 Tryd.infoBy w.heap.size _ T N rfl HN.out (hown.out.alloc _) wr.heap.size 92 rfl (by simp) (by omega) (by simp; omega) ?_; intro sp4 cap4 w4 hown4 hg4; have hz4 := hg4.size; rw [World.size_alloc] at hz4; have HN4 : Hid (N + 1 = (T ++ [92]).length) := (by show _ = _; rw [List.length_append, ← HN.out]; rfl))
            | (at_builtin; refine wpList_append_b1 rfl (.tmp 21) (.tmp 25) 58 5 rfl Tryd.underlying58 Tryd.infoBy w.heap.size _ (T ++ [92]) (N + 1) rfl HN4.out (hown4.out.alloc _) w4.heap.size s[k] rfl (by simp) (by omega) (by simp; omega) ?_; intro sp5 cap5 w5 hown5 hg5)
            | (go_at_call 98; refine (HC.out _).mono ?_; rintro e w6 ⟨rfl, rfl⟩))
          have hbe4 := (hbe.out.alloc hbs (.cells #[.int .u8 92] 5)).grown hg4 (by simp; omega) (own_baseP hown.out)
          have hbe5 := (hbe4.alloc (by omega) (.cells #[.int .u8 (s[k].toNat : Int)] 5)).grown hg5 (by simp; omega) (own_baseP hown4.out)
          go_roundw
          case rel =>
            refine ⟨k + 1, N + 1 + 1, sp5, cap5, by omega, by go_num, hN5, ?_, rfl, ?_, hbe5⟩
            · show _ = _; rw [HS.out, List.length_append, ← HN.out]; rfl
            · rw [HS.out]
              have := hown5.out
              show World.ownsRow _ _ _ _ _ _ _
              rw [List.append_assoc] at this
              exact this
          case measure => simp [intOf]; omega
      · obtain rfl : k = s.size := by omega
        have hd : decide ((s.size : Int) < (s.size : Int)) = false := by simp
        have HALL : Hid (s.data.toList.take s.size = s.data.toList) := List.take_of_length_le (by rw [← Lib.size_eq]; exact Nat.le_refl _)
        rw [HALL.out] at HN hown
        have hcv := run_string_ownP hown.out HN.out
        obtain ⟨T, hT⟩ : ∃ T, litL s.data.toList = T := ⟨_, rfl⟩
        rw [hT] at hcv HX
        clear hT hown HALL
        go_wp2_with fail
        go_ret
        exact ⟨by rw [HX.out]; rfl, hbe.out⟩
end Go.Proofs.YtkookkhlgllneaaDoor

namespace Go.Proofs.YtkookkhlgllneaaDoor
open Go.RowKit

theorem u8_ne {c d : UInt8} (h : ¬ c = d) : ((c.toNat : Int) == (d.toNat : Int)) = false := by
  rw [beq_eq_false_iff_ne]; intro e; apply h; apply UInt8.toNat_inj.1; omega
def validB (p : ByteArray) : Bool := (patL p.data.toList).isSome
set_option maxHeartbeats 1000000 in
theorem patValid_any (p : ByteArray) (w : World) :
    Calls Tryd.prog 47 #[.string p] w fun e w' => e = .returned (.bool (validB p)) ∧ Below w.heap.size w w' := by
  have hR : Calls Tryd.prog 83 #[.string p] w fun e w' => ∃ v, e = .returned (.tuple #[v, .bool (validB p)]) ∧ Below w.heap.size w w' := (read_any p w).mono fun e w' h => by
    unfold ReadRes at h
    unfold validB
    cases hp : patL p.data.toList with
    | none => rw [hp] at h; exact ⟨_, h.1, h.2⟩
    | some ps => rw [hp] at h; obtain ⟨sp, cap, he, _, hb⟩ := h; exact ⟨_, he, hb⟩
  have HR := Lib.hid hR
  clear hR
  obtain ⟨vb, hvb⟩ : ∃ b, validB p = b := ⟨_, rfl⟩
  rw [hvb] at HR ⊢
  clear hvb
  go_enter Tryd.func47, Tryd.ntmps47
  go_wp2_with fail
  refine HR.out.mono ?_
  rintro e w1 ⟨v, rfl, b1⟩
  go_wp2_with fail
  go_ret
  exact ⟨rfl, b1⟩
end Go.Proofs.YtkookkhlgllneaaDoor

namespace Go.Proofs.YtkookkhlgllneaaDoor
open Go.RowKit

/-- the reference's parts: their sample is 0 where it is not looked at -/
def rf1 (p : Pt) : Pt := if p.1 = 0 then p else (p.1, 0)
theorem rf1_kind (p : Pt) : (rf1 p).1 = p.1 := by unfold rf1; split <;> rfl
theorem rf1_seq (p : Pt) : seqP (rf1 p) = seqP p := by unfold seqP; rw [rf1_kind]
theorem rf1_tk (p : Pt) (c : Int) : tkP (rf1 p) c = tkP p c := by
  unfold tkP rf1
  by_cases h : p.1 = 0
  · rw [if_pos h]
  · rw [if_neg h]; simp [h]
theorem rf_getD (ps : List Pt) (i : Nat) : (ps.map rf1).getD i (0, 0) = rf1 (ps.getD i (0, 0)) := by
  rw [List.getD_eq_getElem?_getD, List.getD_eq_getElem?_getD, List.getElem?_map]
  cases ps[i]? <;> rfl
theorem Tryd.infoPtR : (Tryd.prog.info? 129).map (fun i => (i.zero, i.size, i.bytes)) = some (some (.agg #[.int .i64 0, .int .u8 0]), 2, 16) := by kernel_rfl
set_option maxHeartbeats 400000 in
theorem refLong_any (p : Pt) (w : World) (hk : p.1 ≤ 3) :
    Calls Tryd.prog 96 #[.agg #[.int .i64 (p.1 : Int), .int .u8 p.2]] w fun e w' => e = .returned (.bool (seqP p)) ∧ Below w.heap.size w w' := by
  obtain ⟨k, c⟩ := p
  rcases (by simp at hk; omega : k = 0 ∨ k = 1 ∨ k = 2 ∨ k = 3) with rfl | rfl | rfl | rfl
  all_goals
    go_enter Tryd.func96, Tryd.ntmps96
    go_wp2
    go_ret
    exact ⟨rfl, (Below.refl _ _).alloc (Nat.le_refl _) _⟩
theorem eqc (a b : Int) : (a == b) = (b == a) := by rw [Bool.eq_iff_iff, beq_iff_eq, beq_iff_eq]; exact eq_comm
set_option maxHeartbeats 400000 in
theorem refTakes_any (p : Pt) (c : Int) (w : World) (hk : p.1 ≤ 3) :
    Calls Tryd.prog 92 #[.agg #[.int .i64 (p.1 : Int), .int .u8 p.2], .int .u8 c] w fun e w' => e = .returned (.bool (tkP p c)) ∧ Below w.heap.size w w' := by
  obtain ⟨k, d⟩ := p
  rcases (by simp at hk; omega : k = 0 ∨ k = 1 ∨ k = 2 ∨ k = 3) with rfl | rfl | rfl | rfl
  · have HT : Hid (tkP (0, d) c = (d == c)) := eqc c d
    obtain ⟨b, hb⟩ : ∃ b, (d == c) = b := ⟨_, rfl⟩
    rw [hb] at HT
    cases b
    all_goals
      go_enter Tryd.func92, Tryd.ntmps92
      go_wp2
      go_ret
      exact ⟨by rw [HT.out]; rfl, (Below.refl _ _).alloc (Nat.le_refl _) _⟩
  all_goals
    go_enter Tryd.func92, Tryd.ntmps92
    go_wp2
    go_ret
    exact ⟨rfl, (Below.refl _ _).alloc (Nat.le_refl _) _⟩
def RReadRes (w : World) (l : List UInt8) (e : Ending) (w' : World) : Prop := match patL l with
  | none => e = .returned (.tuple #[.slice none 0 0, .bool false]) ∧ Below w.heap.size w w'
  | some ps => ∃ sp cap, e = .returned (.tuple #[.slice sp ps.length cap, .bool true]) ∧ w'.ownsRow w.heap.size 129 2 (.slice sp ps.length cap) ps.length (ptC (ps.map rf1)) ∧ Below w.heap.size w w'
theorem rreadRes_none {w : World} {l : List UInt8} {e : Ending} {w' : World} (h : patL l = none) (he : e = .returned (.tuple #[.slice none 0 0, .bool false])) (hb : Below w.heap.size w w') : RReadRes w l e w' := by unfold RReadRes; rw [h]; exact ⟨he, hb⟩
theorem patL_rd {l : List UInt8} (h : rdP l = none) : patL l = none := by unfold patL; split <;> first | rfl | exact h
set_option maxRecDepth 100000 in
set_option maxHeartbeats 1000000 in
theorem refRead_any (s : ByteArray) (w : World) :
    Calls Tryd.prog 88 #[.string s] w (RReadRes w s.data.toList) := by
  by_cases he : s.size = 0
  · have HN := Lib.hid (patL_nil s.data.toList (.inl (List.eq_nil_of_length_eq_zero (by rw [← Lib.size_eq]; exact he))))
    have hl : s.toList = [] := by rw [Lib.toList_data]; exact List.eq_nil_of_length_eq_zero (by rw [← Lib.size_eq]; exact he)
    go_enter Tryd.func88, Tryd.ntmps88
    go_wp2_with fail
    go_ret2
    exact rreadRes_none HN.out rfl (Below.refl _ _)
  have hl : (s.toList == []) = false := by
    rw [Lib.toList_data, beq_eq_false_iff_ne]; intro e; apply he; rw [Lib.size_eq, e]; rfl
  have hl2 : ¬ s.toList = [] := by simpa using hl
  by_cases h200 : 200 < s.size
  · have HN := Lib.hid (patL_nil s.data.toList (.inr (.inl (by rw [← Lib.size_eq]; exact h200))))
    have hd : decide ((s.size : Int) > 200) = true := by simp; omega
    go_enter Tryd.func88, Tryd.ntmps88
    go_wp2_with fail
    go_ret2
    exact rreadRes_none HN.out rfl (Below.refl _ _)
  have hd : decide ((s.size : Int) > 200) = false := by simp; omega
  have hsz : s.size ≤ 200 := by omega
  have HPO : Hid (∀ h : Lib.indexByte s.data.toList 0 < 0, patL s.data.toList = rdP s.data.toList) := fun h => patL_of (fun e => he (by rw [Lib.size_eq, e]; rfl)) (by rw [← Lib.size_eq]; exact hsz) h
  have HPZ : Hid (∀ j (hj : j < s.size), s[j] = 0 → patL s.data.toList = none) := fun j hj h => patL_nil _ (.inr (.inr (zero_in (by rw [← Lib.size_eq]; exact hj) (by rw [getD_byteP s j hj]; exact h))))
  have HLS := Lib.hid (Lib.size_eq s)
  clear h200 he
  go_enter Tryd.func88, Tryd.ntmps88
  go_wp2_with fail
  clear hl hl2 hd
  go_loopw [4, 5] (fun v i wr => ∃ (k N : Nat) (done : List Pt) (sp : Option Addr) (cap : Nat), k ≤ s.size ∧ i = .int .i64 k ∧ N ≤ k ∧ Hid (N = (done.map rf1).length) ∧ v = .slice sp N cap ∧ Hid (rdP s.data.toList = (rdP (s.data.toList.drop k)).map (done ++ ·)) ∧ Hid (∀ j, j < k → s.data.toList.getD j 0 ≠ 0) ∧ Hid (wr.ownsRow w.heap.size 129 2 (.slice sp N cap) N (ptC (done.map rf1))) ∧ Hid (Below w.heap.size w wr)) (fun _ i _ => s.size - (intOf i).toNat)
  case atStart => exact ⟨0, 0, [], none, 0, Nat.zero_le _, rfl, Nat.le_refl _, rfl, rfl, by show _ = _; simp, fun j hj => absurd hj (by omega), World.ownsRow_nil _ _ _ _, Below.refl _ _⟩
  case round =>
    obtain ⟨k, N, done, sp, cap, hk, rfl, hNk, HN, rfl, HR, HZ, hown, hbe⟩ := hrel
    have hbs := hbe.out.size
    by_cases hlt : k < s.size
    · have hd : decide ((k : Int) < (s.size : Int)) = true := by simp; omega
      have p1 : (0 : Int) ≤ (k : Int) := by omega
      have p2 : (k : Int) < (s.size : Int) := by omega
      have HD := Lib.hid (drop_at s k hlt)
      have HG := Lib.hid (getD_byteP s k hlt)
      by_cases hz : s[k] = 0
      · have t0 : ((s[k].toNat : Int) == 0) = true := by rw [hz]; rfl
        have HX := Lib.hid (HPZ.out k hlt hz)
        clear hz
        go_wp2_with fail
        go_ret2
        exact rreadRes_none HX.out rfl hbe.out
      have t0 : ((s[k].toNat : Int) == 0) = false := u8_ne (d := 0) hz
      have HZ1 : Hid (∀ j, j < k + 1 → s.data.toList.getD j 0 ≠ 0) := fun j hj => by
        by_cases h : j < k
        · exact HZ.out j h
        · obtain rfl : j = k := by omega
          rw [HG.out]; exact hz
      clear hz
      have q1 : (0 : Int) ≤ (k : Int) + 1 := by omega
      have q3 : ((k : Int) + 1).toNat = k + 1 := by omega
      by_cases c92 : s[k] = 92
      · have t92 : ((s[k].toNat : Int) == 92) = true := by rw [c92]; rfl
        by_cases hend : k + 1 = s.size
        · have hx : ((k : Int) + 1 == (s.size : Int)) = true := by rw [beq_iff_eq]; omega
          have HX : Hid (patL s.data.toList = none) := by
            show _ = _
            apply patL_rd
            rw [HR.out, HD.out, c92, List.drop_eq_nil_of_le (by rw [← HLS.out]; omega), rdP_cons_esc_end]; rfl
          clear c92 hend
          go_wp2_with fail
          go_ret2
          exact rreadRes_none HX.out rfl hbe.out
        · have hx : ((k : Int) + 1 == (s.size : Int)) = false := by rw [beq_eq_false_iff_ne]; omega
          have hlt2 : k + 1 < s.size := by omega
          have q2 : (k : Int) + 1 < (s.size : Int) := by omega
          have HG2 := Lib.hid (getD_byteP s (k + 1) hlt2)
          by_cases hz2 : s[k + 1] = 0
          · have t1 : ((s[k + 1].toNat : Int) == 0) = true := by rw [hz2]; rfl
            have HX := Lib.hid (HPZ.out (k + 1) hlt2 hz2)
            clear hz2 c92 hend
            go_wp2_with fail
            go_ret2
            exact rreadRes_none HX.out rfl hbe.out
          have t1 : ((s[k + 1].toNat : Int) == 0) = false := u8_ne (d := 0) hz2
          have HZ2 : Hid (∀ j, j < k + 1 + 1 → s.data.toList.getD j 0 ≠ 0) := fun j hj => by
            by_cases h : j < k + 1
            · exact HZ1.out j h
            · obtain rfl : j = k + 1 := by omega
              rw [HG2.out]; exact hz2
          have HST : Hid (rdP s.data.toList = (rdP (s.data.toList.drop (k + 1 + 1))).map ((done ++ [((0, ((s[k + 1]).toNat : Int)) : Pt)]) ++ ·)) := by
            show _ = _
            refine rdP_go (m := 1 + 1) HR.out ?_
            rw [HD.out, c92, drop_at s (k + 1) hlt2, rdP_esc]
          clear c92 hend hz2
          go_wp2_with (first
            | (at_builtin; refine wpList_append_pt rfl (.tmp 47) (.tmp 52) 118 129 rfl Tryd.underlying118 Tryd.infoPtR w.heap.size _ (done.map rf1) N rfl HN.out (hown.out.alloc _) wr.heap.size ((0, ((s[k + 1]).toNat : Int)) : Pt) rfl (by simp) (by simp) (by omega) (by simp; omega) ?_; intro sp5 cap5 w5 hown5 hg5))
          have hbe5 := (hbe.out.alloc hbs _).grown hg5 (by simp; omega) (own_baseP hown.out)
          go_roundw
          case rel =>
            refine ⟨k + 1 + 1, N + 1, done ++ [((0, ((s[k + 1]).toNat : Int)) : Pt)], sp5, cap5, by omega, by go_num, by omega, ?_, rfl, HST.out, HZ2.out, ?_, hbe5⟩
            · show _ = _; rw [List.map_append, List.length_append, ← HN.out]; rfl
            · show World.ownsRow _ _ _ _ _ _ _; rw [List.map_append]; exact hown5.out
          case measure => simp [intOf]; omega
      · have t92 : ((s[k].toNat : Int) == 92) = false := u8_ne (d := 92) c92
        by_cases c42 : s[k] = 42
        · have t42 : ((s[k].toNat : Int) == 42) = true := by rw [c42]; rfl
          by_cases h42 : (s.data.toList.drop (k + 1)).head? = some 42
          · have hlt2 : k + 1 < s.size := by
              rcases Nat.lt_or_ge (k + 1) s.size with h | h
              · exact h
              · rw [List.drop_eq_nil_of_le (by rw [← HLS.out]; omega)] at h42; cases h42
            have h42b : s[k + 1] = 42 := by rw [drop_at s (k + 1) hlt2] at h42; simpa using h42
            have hx : decide ((k : Int) + 1 < (s.size : Int)) = true := by simp; omega
            have q2 : (k : Int) + 1 < (s.size : Int) := by omega
            have t1 : ((s[k + 1].toNat : Int) == 42) = true := by rw [h42b]; rfl
            have HG2 := Lib.hid (getD_byteP s (k + 1) hlt2)
            have HZ2 : Hid (∀ j, j < k + 1 + 1 → s.data.toList.getD j 0 ≠ 0) := fun j hj => by
              by_cases h : j < k + 1
              · exact HZ1.out j h
              · obtain rfl : j = k + 1 := by omega
                rw [HG2.out, h42b]; decide
            have HST : Hid (rdP s.data.toList = (rdP (s.data.toList.drop (k + 1 + 1))).map ((done ++ [((3, 120) : Pt)]) ++ ·)) := by
              show _ = _
              refine rdP_go (m := 1 + 1) HR.out ?_
              rw [HD.out, c42, drop_at s (k + 1) hlt2, h42b, rdP_ss]
            clear c92 c42 h42 h42b
            go_wp2_with (first
              | (at_builtin; refine wpList_append_pt rfl (.tmp 70) (.tmp 72) 118 129 rfl Tryd.underlying118 Tryd.infoPtR w.heap.size _ (done.map rf1) N rfl HN.out (hown.out.alloc _) wr.heap.size ((3, 0) : Pt) rfl (by simp) (by simp) (by omega) (by simp; omega) ?_; intro sp5 cap5 w5 hown5 hg5))
            have hbe5 := (hbe.out.alloc hbs _).grown hg5 (by simp; omega) (own_baseP hown.out)
            go_roundw
            case rel =>
              refine ⟨k + 1 + 1, N + 1, done ++ [((3, 120) : Pt)], sp5, cap5, by omega, by go_num, by omega, ?_, rfl, HST.out, HZ2.out, ?_, hbe5⟩
              · show _ = _; rw [List.map_append, List.length_append, ← HN.out]; rfl
              · show World.ownsRow _ _ _ _ _ _ _; rw [List.map_append]; exact hown5.out
            case measure => simp [intOf]; omega
          · have HST : Hid (rdP s.data.toList = (rdP (s.data.toList.drop (k + 1))).map ((done ++ [((2, 120) : Pt)]) ++ ·)) := by
              show _ = _
              refine rdP_go (m := 1) HR.out ?_
              rw [HD.out, c42, rdP_s _ h42]
            by_cases hend : k + 1 < s.size
            · have hx : decide ((k : Int) + 1 < (s.size : Int)) = true := by simp; omega
              have q2 : (k : Int) + 1 < (s.size : Int) := by omega
              have t1 : ((s[k + 1].toNat : Int) == 42) = false := by
                refine u8_ne (d := 42) (fun e => h42 ?_)
                rw [drop_at s (k + 1) hend, e]; rfl
              clear c92 c42 h42
              go_wp2_with (first
                | (at_builtin; refine wpList_append_pt rfl (.tmp 74) (.tmp 76) 118 129 rfl Tryd.underlying118 Tryd.infoPtR w.heap.size _ (done.map rf1) N rfl HN.out (hown.out.alloc _) wr.heap.size ((2, 0) : Pt) rfl (by simp) (by simp) (by omega) (by simp; omega) ?_; intro sp5 cap5 w5 hown5 hg5))
              have hbe5 := (hbe.out.alloc hbs _).grown hg5 (by simp; omega) (own_baseP hown.out)
              go_roundw
              case rel =>
                refine ⟨k + 1, N + 1, done ++ [((2, 120) : Pt)], sp5, cap5, by omega, by go_num, by omega, ?_, rfl, HST.out, HZ1.out, ?_, hbe5⟩
                · show _ = _; rw [List.map_append, List.length_append, ← HN.out]; rfl
                · show World.ownsRow _ _ _ _ _ _ _; rw [List.map_append]; exact hown5.out
              case measure => simp [intOf]; omega
            · have hx : decide ((k : Int) + 1 < (s.size : Int)) = false := by simp; omega
              clear c92 c42 h42
              go_wp2_with (first
                | (at_builtin; refine wpList_append_pt rfl (.tmp 74) (.tmp 76) 118 129 rfl Tryd.underlying118 Tryd.infoPtR w.heap.size _ (done.map rf1) N rfl HN.out (hown.out.alloc _) wr.heap.size ((2, 0) : Pt) rfl (by simp) (by simp) (by omega) (by simp; omega) ?_; intro sp5 cap5 w5 hown5 hg5))
              have hbe5 := (hbe.out.alloc hbs _).grown hg5 (by simp; omega) (own_baseP hown.out)
              go_roundw
              case rel =>
                refine ⟨k + 1, N + 1, done ++ [((2, 120) : Pt)], sp5, cap5, by omega, by go_num, by omega, ?_, rfl, HST.out, HZ1.out, ?_, hbe5⟩
                · show _ = _; rw [List.map_append, List.length_append, ← HN.out]; rfl
                · show World.ownsRow _ _ _ _ _ _ _; rw [List.map_append]; exact hown5.out
              case measure => simp [intOf]; omega
        · have t42 : ((s[k].toNat : Int) == 42) = false := u8_ne (d := 42) c42
          by_cases c63 : s[k] = 63
          · have t63 : ((s[k].toNat : Int) == 63) = true := by rw [c63]; rfl
            have HST : Hid (rdP s.data.toList = (rdP (s.data.toList.drop (k + 1))).map ((done ++ [((1, 120) : Pt)]) ++ ·)) := by
              show _ = _
              refine rdP_go (m := 1) HR.out ?_
              rw [HD.out, c63, rdP_q]
            clear c92 c42 c63
            go_wp2_with (first
              | (at_builtin; refine wpList_append_pt rfl (.tmp 80) (.tmp 82) 118 129 rfl Tryd.underlying118 Tryd.infoPtR w.heap.size _ (done.map rf1) N rfl HN.out (hown.out.alloc _) wr.heap.size ((1, 0) : Pt) rfl (by simp) (by simp) (by omega) (by simp; omega) ?_; intro sp5 cap5 w5 hown5 hg5))
            have hbe5 := (hbe.out.alloc hbs _).grown hg5 (by simp; omega) (own_baseP hown.out)
            go_roundw
            case rel =>
              refine ⟨k + 1, N + 1, done ++ [((1, 120) : Pt)], sp5, cap5, by omega, by go_num, by omega, ?_, rfl, HST.out, HZ1.out, ?_, hbe5⟩
              · show _ = _; rw [List.map_append, List.length_append, ← HN.out]; rfl
              · show World.ownsRow _ _ _ _ _ _ _; rw [List.map_append]; exact hown5.out
            case measure => simp [intOf]; omega
          · have t63 : ((s[k].toNat : Int) == 63) = false := u8_ne (d := 63) c63
            have HST : Hid (rdP s.data.toList = (rdP (s.data.toList.drop (k + 1))).map ((done ++ [((0, ((s[k]).toNat : Int)) : Pt)]) ++ ·)) := by
              show _ = _
              refine rdP_go (m := 1) HR.out ?_
              rw [HD.out, rdP_c _ _ c92 c42 c63]
            clear c92 c42 c63
            go_wp2_with (first
              | (at_builtin; refine wpList_append_pt rfl (.tmp 26) (.tmp 29) 118 129 rfl Tryd.underlying118 Tryd.infoPtR w.heap.size _ (done.map rf1) N rfl HN.out (hown.out.alloc _) wr.heap.size ((0, ((s[k]).toNat : Int)) : Pt) rfl (by simp) (by simp) (by omega) (by simp; omega) ?_; intro sp5 cap5 w5 hown5 hg5))
            have hbe5 := (hbe.out.alloc hbs _).grown hg5 (by simp; omega) (own_baseP hown.out)
            go_roundw
            case rel =>
              refine ⟨k + 1, N + 1, done ++ [((0, ((s[k]).toNat : Int)) : Pt)], sp5, cap5, by omega, by go_num, by omega, ?_, rfl, HST.out, HZ1.out, ?_, hbe5⟩
              · show _ = _; rw [List.map_append, List.length_append, ← HN.out]; rfl
              · show World.ownsRow _ _ _ _ _ _ _; rw [List.map_append]; exact hown5.out
            case measure => simp [intOf]; omega
    · obtain rfl : k = s.size := by omega
      have hd : decide ((s.size : Int) < (s.size : Int)) = false := by simp
      have HX : Hid (patL s.data.toList = some done) := by
        show _ = _
        rw [HPO.out (zero_free (fun j hj => HZ.out j (by rw [HLS.out]; exact hj))), HR.out, List.drop_eq_nil_of_le (by rw [← HLS.out]; exact Nat.le_refl _)]; simp [rdP]
      clear HZ HPO HPZ
      go_wp2_with fail
      go_ret2
      unfold RReadRes
      rw [HX.out]
      have h1 := hown.out
      have hlen : N = done.length := by rw [HN.out, List.length_map]
      rw [hlen] at h1 ⊢
      exact ⟨sp, cap, rfl, h1, hbe.out⟩
end Go.Proofs.YtkookkhlgllneaaDoor

namespace Go.Proofs.YtkookkhlgllneaaDoor
open Go.RowKit

/-- a row of n + 1 bools -/
def rowF (n : Nat) (f : Nat → Bool) : List Bool := (List.range (n + 1)).map f
theorem rowF_length (n : Nat) (f : Nat → Bool) : (rowF n f).length = n + 1 := by simp [rowF]
theorem rowF_get (n : Nat) (f : Nat → Bool) (i : Nat) (h : i ≤ n) : (rowF n f).getD i false = f i := by
  unfold rowF
  rw [List.getD_eq_getElem?_getD, List.getElem?_map, List.getElem?_range (by omega)]; rfl
theorem rowF_congr {n : Nat} {f g : Nat → Bool} (h : ∀ i, i ≤ n → f i = g i) : rowF n f = rowF n g := by
  unfold rowF
  exact List.map_congr_left fun i hi => h i (by have := List.mem_range.1 hi; omega)
theorem rowF_set (n : Nat) (f : Nat → Bool) (k : Nat) (v : Bool) : (rowF n f).set k v = rowF n (fun i => if i = k then v else f i) := by
  unfold rowF
  apply List.ext_getElem
  · simp
  · intro i h1 h2
    rw [List.getElem_set]
    simp only [List.getElem_map, List.getElem_range]
    by_cases h : k = i
    · rw [if_pos h, if_pos h.symm]
    · rw [if_neg h, if_neg (fun e => h e.symm)]
/-- what a part takes of the byte; what the part before hands on; the row behind the first pass, on its way; behind the second -/
def tT (ps : List Pt) (old : List Bool) (c : Int) (i : Nat) : Bool := old.getD i false && tkP (ps.getD i (0, 0)) c
def loB (ps : List Pt) (old : List Bool) (c : Int) : Nat → Bool
  | 0 => false
  | j + 1 => !seqP (ps.getD j (0, 0)) && tT ps old c j
def t3B (ps : List Pt) (old : List Bool) (c : Int) (i : Nat) : Bool := (decide (i < ps.length) && seqP (ps.getD i (0, 0)) && tT ps old c i) || loB ps old c i
def w3B (ps : List Pt) (old : List Bool) (c : Int) (k i : Nat) : Bool := if i < k then t3B ps old c i else if i = k then loB ps old c i else false
def w4B (ps : List Pt) (old : List Bool) (c : Int) (k i : Nat) : Bool := if i ≤ k then nvc ps old c i else t3B ps old c i
theorem w3_zero (ps : List Pt) (old : List Bool) (c : Int) (n : Nat) : rowF n (w3B ps old c 0) = List.replicate (n + 1) false := by
  apply List.ext_getElem
  · simp [rowF]
  · intro i h1 h2
    simp only [rowF, List.getElem_map, List.getElem_range, List.getElem_replicate]
    unfold w3B
    rw [if_neg (by omega)]
    split
    · rename_i h; subst h; rfl
    · rfl
theorem w3_no {ps : List Pt} {old : List Bool} {c : Int} {k n : Nat} (h : tT ps old c k = false) : rowF n (w3B ps old c k) = rowF n (w3B ps old c (k + 1)) := by
  apply rowF_congr
  intro i _
  unfold w3B
  by_cases h1 : i < k
  · rw [if_pos h1, if_pos (by omega)]
  · rw [if_neg h1]
    by_cases h2 : i = k
    · subst h2
      rw [if_pos rfl, if_pos (by omega)]
      unfold t3B; rw [h]; simp
    · rw [if_neg h2, if_neg (by omega)]
      split
      · rename_i h3; subst h3
        show false = (_ && tT ps old c k); rw [h, Bool.and_false]
      · rfl
theorem w3_seq {ps : List Pt} {old : List Bool} {c : Int} {k n : Nat} (hk : k < ps.length) (h : tT ps old c k = true) (hs : seqP (ps.getD k (0, 0)) = true) : (rowF n (w3B ps old c k)).set k true = rowF n (w3B ps old c (k + 1)) := by
  rw [rowF_set]
  apply rowF_congr
  intro i _
  unfold w3B
  by_cases h2 : i = k
  · subst h2
    rw [if_pos rfl, if_pos (by omega)]
    unfold t3B; rw [h, hs, decide_eq_true hk]; rfl
  · rw [if_neg h2]
    by_cases h1 : i < k
    · rw [if_pos h1, if_pos (by omega)]
    · rw [if_neg h1, if_neg h2, if_neg (by omega)]
      split
      · rename_i h3; subst h3
        show false = (!seqP _ && _); rw [hs]; rfl
      · rfl
theorem w3_one {ps : List Pt} {old : List Bool} {c : Int} {k n : Nat} (h : tT ps old c k = true) (hs : seqP (ps.getD k (0, 0)) = false) : (rowF n (w3B ps old c k)).set (k + 1) true = rowF n (w3B ps old c (k + 1)) := by
  rw [rowF_set]
  apply rowF_congr
  intro i _
  unfold w3B
  by_cases h2 : i = k + 1
  · subst h2
    rw [if_pos rfl, if_neg (by omega), if_pos rfl]
    show true = (!seqP _ && tT ps old c k); rw [hs, h]; rfl
  · rw [if_neg h2]
    by_cases h1 : i < k
    · rw [if_pos h1, if_pos (by omega)]
    · rw [if_neg h1]
      by_cases h3 : i = k
      · subst h3
        rw [if_pos rfl, if_pos (by omega)]
        unfold t3B; rw [hs]; simp
      · rw [if_neg h3, if_neg (by omega), if_neg h2]
theorem arr_eq (ps : List Pt) (old : List Bool) (c : Int) (i : Nat) : arr ps old c (i + 1) = if seqP (ps.getD i (0, 0)) = true then arr ps old c i || tT ps old c i else tT ps old c i := rfl
theorem nvc_eq {ps : List Pt} {old : List Bool} {c : Int} {i : Nat} : nvc ps old c i = ((decide (i < ps.length) && seqP (ps.getD i (0, 0)) && tT ps old c i) || arr ps old c i) := by
  unfold nvc
  by_cases h : (decide (i < ps.length) && seqP (ps.getD i (0, 0))) = true
  · rw [if_pos h, h, Bool.true_and]
    rw [Bool.and_eq_true] at h
    rw [arr_eq, if_pos h.2, Bool.or_comm]
  · rw [if_neg h]
    have : (decide (i < ps.length) && seqP (ps.getD i (0, 0))) = false := by simpa using h
    rw [this]; simp
theorem w34 (ps : List Pt) (old : List Bool) (c : Int) : rowF ps.length (w3B ps old c ps.length) = rowF ps.length (w4B ps old c 0) := by
  apply rowF_congr
  intro i hi
  unfold w3B w4B
  by_cases h : i < ps.length
  · rw [if_pos h]
    by_cases h0 : i ≤ 0
    · obtain rfl : i = 0 := by omega
      rw [if_pos (Nat.le_refl _), nvc_eq]
      unfold t3B; rfl
    · rw [if_neg h0]
  · obtain rfl : i = ps.length := by omega
    rw [if_neg h, if_pos rfl]
    by_cases h0 : ps.length ≤ 0
    · have h1 : ps.length = 0 := by omega
      rw [if_pos h0, nvc_eq, decide_eq_false h]
      rw [h1]; rfl
    · rw [if_neg h0]; unfold t3B; rw [decide_eq_false h]; rfl
theorem w4_yes {ps : List Pt} {old : List Bool} {c : Int} {k n : Nat} (h : nvc ps old c k = true) (hk : k < ps.length) (hs : seqP (ps.getD k (0, 0)) = true) : (rowF n (w4B ps old c k)).set (k + 1) true = rowF n (w4B ps old c (k + 1)) := by
  rw [rowF_set]
  apply rowF_congr
  intro i _
  unfold w4B
  by_cases h2 : i = k + 1
  · subst h2
    rw [if_pos rfl, if_pos (Nat.le_refl _), nvc_eq, (nvc_seq hk hs).2, h, Bool.or_true]
  · rw [if_neg h2]
    by_cases h1 : i ≤ k
    · rw [if_pos h1, if_pos (by omega)]
    · rw [if_neg h1, if_neg (by omega)]
theorem w4_no {ps : List Pt} {old : List Bool} {c : Int} {k n : Nat} (hk : k < ps.length) (h : (nvc ps old c k && seqP (ps.getD k (0, 0))) = false) : rowF n (w4B ps old c k) = rowF n (w4B ps old c (k + 1)) := by
  apply rowF_congr
  intro i _
  unfold w4B
  by_cases h1 : i ≤ k
  · rw [if_pos h1, if_pos (by omega)]
  · rw [if_neg h1]
    by_cases h2 : i = k + 1
    · subst h2
      rw [if_pos (Nat.le_refl _), nvc_eq]
      unfold t3B
      congr 1
      show (!seqP (ps.getD k (0, 0)) && tT ps old c k) = _
      cases hs : seqP (ps.getD k (0, 0))
      · rw [(nvc_one hs).2]; rfl
      · rw [hs, Bool.and_true] at h
        rw [(nvc_seq hk hs).2, h]; rfl
    · rw [if_neg (by omega)]
theorem w4_end (ps : List Pt) (old : List Bool) (c : Int) : rowF ps.length (w4B ps old c ps.length) = advL ps old c := by
  unfold advL
  exact rowF_congr (g := nvc ps old c) fun i hi => by unfold w4B; rw [if_pos hi]
theorem w4_at (ps : List Pt) (old : List Bool) (c : Int) (k n : Nat) (hk : k ≤ n) : (rowF n (w4B ps old c k)).getD k false = nvc ps old c k := by
  rw [rowF_get _ _ _ hk]; unfold w4B; rw [if_pos (Nat.le_refl _)]
/-- the first row stops where a part stands for one byte -/
theorem ini_past {ps : List Pt} {k : Nat} (h : seqP (ps.getD k (0, 0)) = false) : ∀ i, k < i → ini ps i = false := by
  intro i hi
  unfold ini
  rw [List.all_eq_false]
  exact ⟨k, by simpa using hi, by rw [h]; simp⟩
theorem wayI_stop {ps : List Pt} {k : Nat} (hk : k < ps.length) (h : seqP (ps.getD k (0, 0)) = false) : wayI ps (k + 1) = iniL ps := by
  apply List.ext_getElem
  · rw [wayI_length _ _ (by omega), iniL_length]
  · intro i h1 h2
    rw [iniL_length] at h2
    have e1 : (wayI ps (k + 1))[i] = (wayI ps (k + 1)).getD i false := by rw [List.getD_eq_getElem?_getD, List.getElem?_eq_getElem h1]; rfl
    have e2 : (iniL ps)[i]'(by rw [iniL_length]; exact h2) = ini ps i := by simp [iniL]
    rw [e1, e2]
    by_cases hi : i < k + 1
    · rw [wayI_get _ _ _ hi]
    · rw [ini_past h i (by omega)]
      unfold wayI
      rw [List.getD_eq_getElem?_getD, List.getElem?_append_right (by simp; omega), List.length_map, List.length_range, List.getElem?_replicate]
      split <;> rfl
end Go.Proofs.YtkookkhlgllneaaDoor

namespace Go.Proofs.YtkookkhlgllneaaDoor
open Go.RowKit

theorem arr_rf (ps : List Pt) (old : List Bool) (c : Int) : ∀ i, arr (ps.map rf1) old c i = arr ps old c i
  | 0 => rfl
  | i + 1 => by rw [arr_eq, arr_eq, rf_getD, rf1_seq, arr_rf ps old c i]; unfold tT; rw [rf_getD, rf1_tk]
theorem nvc_rf (ps : List Pt) (old : List Bool) (c : Int) (i : Nat) : nvc (ps.map rf1) old c i = nvc ps old c i := by
  unfold nvc; rw [arr_rf, arr_rf, rf_getD, rf1_seq, List.length_map]
theorem advL_rf (ps : List Pt) (old : List Bool) (c : Int) : advL (ps.map rf1) old c = advL ps old c := by
  unfold advL; rw [List.length_map]; exact List.map_congr_left fun i _ => nvc_rf ps old c i
theorem ini_rf (ps : List Pt) (i : Nat) : ini (ps.map rf1) i = ini ps i := by
  unfold ini
  congr 1
  funext j
  rw [rf_getD, rf1_seq]
theorem iniL_rf (ps : List Pt) : iniL (ps.map rf1) = iniL ps := by
  unfold iniL; rw [List.length_map]; exact List.map_congr_left fun i _ => ini_rf ps i
theorem runL_rf (ps : List Pt) (l : List UInt8) : runL (ps.map rf1) l = runL ps l := by
  unfold runL; rw [iniL_rf]
  congr 1
  funext v c
  exact advL_rf ps v (c.toNat : Int)
theorem concB_rf (ps : List Pt) (l : List UInt8) : concB (ps.map rf1) l = concB ps l := by
  unfold concB; rw [runL_rf, List.length_map]
/-- parts that the call has read, in memory -/
theorem pIn_of_ownR {w : World} {base : Nat} {sp : Option Addr} {n cap : Nat} {ps : List Pt} (h : w.ownsRow base 129 2 (.slice sp n cap) n (ptC ps)) (hn : n = ps.length) (h0 : 0 < n) : ∃ g, sp = some ⟨g, 0, none⟩ ∧ base ≤ g ∧ g < w.heap.size ∧ n ≤ cap ∧ PIn w g ps := by
  obtain ⟨_, ⟨e, h1⟩ | ⟨g, cap', cur, e, hb, hh, hc, _, hsz, hx⟩⟩ := h
  · omega
  · injection e with e1 e2 e3
    subst e1 e3
    refine ⟨g, rfl, hb, (Array.getElem?_eq_some_iff.1 hh).1, hc, fun i hi => ?_, fun i hi => ?_⟩
    · have h1 := (ptC_at ps i hi).1
      rw [← hx, List.getElem?_take] at h1
      rw [cell_of_row w g _ _ _ _ hh, ← Array.getElem?_toList, Nat.mul_comm i 2]
      split at h1
      · exact h1
      · cases h1
    · have h1 := (ptC_at ps i hi).2
      rw [← hx, List.getElem?_take] at h1
      rw [cell_of_row w g _ _ _ _ hh, ← Array.getElem?_toList, Nat.mul_comm i 2]
      split at h1
      · exact h1
      · cases h1
theorem PIn.below {w w' : World} {bb B : Nat} {ps : List Pt} (h : PIn w bb ps) (hb : Below B w w') (hg : bb < B) : PIn w' bb ps :=
  ⟨fun i hi => (hb.cell (p := ⟨bb, i * 2, none⟩) hg).trans (h.k i hi), fun i hi => (hb.cell (p := ⟨bb, i * 2 + 1, none⟩) hg).trans (h.c i hi)⟩
theorem wayI_next {ps : List Pt} {k : Nat} (hk : k < ps.length) (h0 : ini ps k = true) (hs : seqP (ps.getD k (0, 0)) = true) : (wayI ps (k + 1)).set (k + 1) true = wayI ps (k + 1 + 1) ∧ ini ps (k + 1) = true := by
  have h1 : ini ps (k + 1) = true := by rw [ini_succ, h0, hs]; rfl
  refine ⟨?_, h1⟩
  rw [← wayI_set ps (k + 1) (by omega), h1]
set_option maxRecDepth 100000 in
set_option maxHeartbeats 4000000 in
theorem refMatch_any (p s : ByteArray) (w : World) :
    Calls Tryd.prog 44 #[.string p, .string s] w fun e w' => e = .returned (.bool (mtB p s)) ∧ Below w.heap.size w w' := by
  have HR := Lib.hid (refRead_any p w)
  have HPA := Lib.hid (fun w => refPath_any s w)
  cases hp : patL p.data.toList with
  | none =>
    have HM := Lib.hid (mtB_none (s := s) hp)
    have hR2 : Calls Tryd.prog 88 #[.string p] w fun e w' => e = .returned (.tuple #[.slice none 0 0, .bool false]) ∧ Below w.heap.size w w' := HR.out.mono fun e w' h => by unfold RReadRes at h; rw [hp] at h; exact h
    have HR2 := Lib.hid hR2
    clear hR2 hp HR
    go_enter Tryd.func44, Tryd.ntmps44
    go_wp2_with fail
    refine HR2.out.mono ?_
    rintro e w1 ⟨rfl, hb1⟩
    go_wp2_with fail
    go_ret
    exact ⟨by rw [HM.out]; rfl, hb1⟩
  | some ps0 =>
    have hm := mtB_some (s := s) hp
    obtain ⟨k30, k200, _⟩ := patL_kinds hp
    have h0 := patL_ne hp
    have hR2 : Calls Tryd.prog 88 #[.string p] w fun e w' => ∃ g cap, e = .returned (.tuple #[.slice (some ⟨g, 0, none⟩) (ps0.map rf1).length cap, .bool true]) ∧ g < w'.heap.size ∧ (ps0.map rf1).length ≤ cap ∧ PIn w' g (ps0.map rf1) ∧ Below w.heap.size w w' := HR.out.mono fun e w' h => by
      unfold RReadRes at h; rw [hp] at h
      obtain ⟨sp, cap, he, ho, hb⟩ := h
      obtain ⟨g, rfl, _, h2, h3, h4⟩ := pIn_of_ownR ho (by rw [List.length_map]) h0
      exact ⟨g, cap, by rw [he, List.length_map], h2, by rw [List.length_map]; exact h3, h4, hb⟩
    rw [← concB_rf] at hm
    have k3 : ∀ q ∈ ps0.map rf1, q.1 ≤ 3 := fun q hq => by
      obtain ⟨x, hx, rfl⟩ := List.mem_map.1 hq
      rw [rf1_kind]; exact k30 x hx
    have h200 : (ps0.map rf1).length ≤ 200 := by rw [List.length_map]; exact k200
    clear HR hp k30 k200 h0
    obtain ⟨ps, hps0⟩ : ∃ ps, ps0.map rf1 = ps := ⟨_, rfl⟩
    rw [hps0] at hm hR2 k3 h200
    clear hps0
    have HR2 := Lib.hid hR2; have HK := Lib.hid k3; have HM := Lib.hid hm
    obtain ⟨n, hn⟩ : ∃ n, ps.length = n := ⟨_, rfl⟩
    rw [hn] at HR2 h200
    have HN := Lib.hid hn
    have hps := pathB_size (s := s)
    obtain ⟨pb, hpb⟩ : ∃ b, pathB s = b := ⟨_, rfl⟩
    rw [hpb] at HPA HM hps
    have hmk := makeB n (by omega)
    have HZ : Hid (∀ w0 w1 : World, w0.alloc (.cells ((zBo (n + 1)).setIfInBounds 0 (.bool true)) 4) = w1 → BRow w1 w0.heap.size (wayI ps 1) ∧ Below w0.heap.size w0 w1 ∧ w1.heap.size = w0.heap.size + 1) := by
      rintro w0 w1 rfl
      refine ⟨?_, (Below.refl _ _).alloc (Nat.le_refl _) _, by simp⟩
      have e : (zBo (n + 1)).setIfInBounds 0 (.bool true) = ((wayI ps 1).map Value.bool).toArray := by
        unfold wayI zBo; rw [hn]; simp [List.replicate_succ]; rfl
      rw [e]
      exact heap_alloc_new w0 _
    have HZ2 : Hid (∀ w0 w1 : World, w0.alloc (.cells (zBo (n + 1)) 4) = w1 → BRow w1 w0.heap.size (List.replicate (n + 1) false) ∧ Below w0.heap.size w0 w1 ∧ w1.heap.size = w0.heap.size + 1) := by
      rintro w0 w1 rfl
      exact ⟨zBo_row _ _, (Below.refl _ _).alloc (Nat.le_refl _) _, by simp⟩
    have hz0 : (zBo (n + 1))[0]? = some (.bool false) := by simp [zBo]
    clear hR2 k3 hm hn hpb
    have HPS := Lib.hid hps
    clear hps
    go_enter Tryd.func44, Tryd.ntmps44
    go_wp2_with fail
    refine HR2.out.mono ?_
    rintro e w1 ⟨bb, cap, rfl, hg, hcap, hpi, hb1⟩
    have HPI := Lib.hid hpi; have HB1 := Lib.hid hb1
    clear hpi hb1
    go_wp2_with fail
    refine (HPA.out _).mono ?_
    rintro e w2 ⟨rfl, hb2⟩
    have HP2 := Lib.hid (HPI.out.below hb2 hg)
    have HB2 := Lib.hid (HB1.out.trans (hb2.mono HB1.out.size))
    have hbb : bb < w2.heap.size := Nat.lt_of_lt_of_le hg hb2.size
    clear hb2 HPI hg
    cases pb
    · clear hz0 hmk
      go_wp2_with fail
      go_ret
      exact ⟨by rw [HM.out]; rfl, HB2.out⟩
    · have hs200 : s.size ≤ 200 := HPS.out (by first | rfl | trivial)
      go_wp2_with fail
      generalize hw3 : World.alloc w2 _ = w3
      obtain ⟨hr3, hb3, hz3⟩ := HZ.out _ _ hw3
      have HR3 := Lib.hid hr3; have HB3 := Lib.hid hb3
      clear hw3 hr3 HZ hz0 hb3
      have hlt3 : w2.heap.size < w3.heap.size := by omega
      clear hz3
      go_loopw [8] (fun i wr => ∃ k : Nat, k ≤ n ∧ i = .int .i64 k ∧ Hid (BRow wr w2.heap.size (wayI ps (k + 1))) ∧ Hid (Below w2.heap.size w2 wr) ∧ Hid (ini ps k = true)) (fun i _ => n - (intOf i).toNat)
      case atStart => exact ⟨0, Nat.zero_le _, rfl, HR3.out, HB3.out, ini_zero ps⟩
      case round =>
        clear HR3 HB3
        obtain ⟨k, hk, rfl, hrow, hbe, hin⟩ := hrel
        have hgz := hbe.out.size
        have hgz2 := hrow.out.lt
        have hcs : (k < n ∧ seqP (ps.getD k (0, 0)) = true) ∨ ((k < n ∧ seqP (ps.getD k (0, 0)) = false) ∨ k = n) := by
          rcases Nat.lt_or_ge k n with h | h
          · cases h2 : seqP (ps.getD k (0, 0))
            · exact .inr (.inl ⟨h, rfl⟩)
            · exact .inl ⟨h, rfl⟩
          · exact .inr (.inr (by omega))
        rcases hcs with ⟨hlt, hsq⟩ | hx
        · have hd : decide ((k : Int) < (n : Int)) = true := by simp; omega
          have p1 : (0 : Int) ≤ (k : Int) := by omega
          have p2 : (k : Int) < (n : Int) := by omega
          have p3 : (k : Int) < (n : Int) + 1 := by omega
          have p4 : (0 : Int) ≤ (k : Int) + 1 := by omega
          have p5 : (k : Int) + 1 < (n : Int) + 1 := by omega
          have p6 : ((k : Int) + 1).toNat = k + 1 := by omega
          have c1 := (hbe.out.cell (p := ⟨bb, k * 2, none⟩) hbb).trans (HP2.out.k k (by rw [HN.out]; exact hlt))
          have c2 := (hbe.out.cell (p := ⟨bb, k * 2 + 1, none⟩) hbb).trans (HP2.out.c k (by rw [HN.out]; exact hlt))
          have hwl : (wayI ps (k + 1)).length = n + 1 := by rw [wayI_length _ _ (by rw [HN.out]; omega), HN.out]
          have c4 := hrow.out.get (k + 1) (by rw [hwl]; omega)
          obtain ⟨y, hy⟩ : ∃ y, (wayI ps (k + 1)).getD (k + 1) false = y := ⟨_, rfl⟩
          rw [hy] at c4
          obtain ⟨hst, hi2⟩ := wayI_next (by rw [HN.out]; exact hlt) hin.out hsq
          have hmem : ps.getD k (0, 0) ∈ ps := by rw [List.getD_eq_getElem?_getD, List.getElem?_eq_getElem (by rw [HN.out]; exact hlt)]; exact List.getElem_mem _
          have hq3 := HK.out _ hmem
          obtain ⟨q, hq⟩ : ∃ q, ps.getD k (0, 0) = q := ⟨_, rfl⟩
          rw [hq] at c1 c2 hq3 hsq
          have HC2 := Lib.hid (fun w => refLong_any q w hq3)
          rw [hsq] at HC2
          have HEND : Hid (∀ w6, Below wr.heap.size wr w6 → BRow (w6.setCell ⟨w2.heap.size, k + 1, none⟩ (.bool true)) w2.heap.size (wayI ps (k + 1 + 1)) ∧ Below w2.heap.size w2 (w6.setCell ⟨w2.heap.size, k + 1, none⟩ (.bool true))) := by
            intro w6 hb
            have h1 := (hrow.out.below hb hgz2).put (k + 1) true
            rw [hst] at h1
            exact ⟨h1, (hbe.out.trans (hb.mono hgz)).setCell (p := ⟨w2.heap.size, k + 1, none⟩) (Nat.le_refl _) _⟩
          have HCELL : Hid (∀ w6, Below wr.heap.size wr w6 → w6.cell? ⟨w2.heap.size, k + 1, none⟩ = some (.bool y) ∧ w6.frozen? ⟨w2.heap.size, k + 1, none⟩ = false) := fun w6 hb =>
            ⟨(hb.cell (p := ⟨w2.heap.size, k + 1, none⟩) hgz2).trans c4, (hrow.out.below hb hgz2).free (k + 1)⟩
          have HI2 := Lib.hid hi2
          clear hwl hy hst hi2 hmem hq hsq hmk c4
          go_wp2_with fail
          refine (HC2.out _).mono ?_
          rintro e w6 ⟨rfl, b6⟩
          obtain ⟨y1, y2⟩ := HCELL.out _ b6
          have B6 := Lib.hid b6
          clear b6
          go_wp2_with fail
          go_roundw
          case rel => exact ⟨k + 1, by omega, by go_num, (HEND.out w6 B6.out).1, (HEND.out w6 B6.out).2, HI2.out⟩
          case measure => simp [intOf]; omega
        · have HI : Hid (wayI ps (k + 1) = iniL ps) := by
            rcases hx with ⟨h1, h2⟩ | h1
            · exact wayI_stop (by rw [HN.out]; exact h1) h2
            · show _ = _; rw [h1, ← HN.out, wayI_end]
          have HRI : Hid (∀ wq, Below wr.heap.size wr wq → BRow wq w2.heap.size (runL ps (s.data.toList.take 0)) ∧ Below w2.heap.size w2 wq) := by
            intro wq h1
            have h2 := hrow.out.below h1 hgz2
            rw [HI.out] at h2
            exact ⟨h2, hbe.out.trans (h1.mono hgz)⟩
          have hx2 : (decide ((k : Int) < (n : Int)) = true ∧ k < n ∧ seqP (ps.getD k (0, 0)) = false) ∨ n = k := by
            rcases hx with ⟨h1, h2⟩ | h1
            · exact .inl ⟨by simp; omega, h1, h2⟩
            · exact .inr h1.symm
          clear hx HI
          rcases hx2 with ⟨hd, hlt, hsq⟩ | hkn
          focus
            have p1 : (0 : Int) ≤ (k : Int) := by omega
            have p2 : (k : Int) < (n : Int) := by omega
            have c1 := (hbe.out.cell (p := ⟨bb, k * 2, none⟩) hbb).trans (HP2.out.k k (by rw [HN.out]; exact hlt))
            have c2 := (hbe.out.cell (p := ⟨bb, k * 2 + 1, none⟩) hbb).trans (HP2.out.c k (by rw [HN.out]; exact hlt))
            have hmem : ps.getD k (0, 0) ∈ ps := by rw [List.getD_eq_getElem?_getD, List.getElem?_eq_getElem (by rw [HN.out]; exact hlt)]; exact List.getElem_mem _
            have hq3 := HK.out _ hmem
            obtain ⟨q, hq⟩ : ∃ q, ps.getD k (0, 0) = q := ⟨_, rfl⟩
            rw [hq] at c1 c2 hq3 hsq
            have HC2 := Lib.hid (fun w => refLong_any q w hq3)
            rw [hsq] at HC2
            clear hmem hq hsq hrow hbe
            go_wp2_with fail
            refine (HC2.out _).mono ?_
            rintro e w6 ⟨rfl, b6⟩
            have HRJ := Lib.hid (HRI.out _ b6)
            clear b6 c1 c2 HRI hin HC2 hq3 hd hlt p1 p2
            go_wp2_with fail
          rotate_left
          focus
            have HRJ := Lib.hid (HRI.out _ (Below.refl _ _))
            clear hrow hbe
            obtain rfl := hkn
            have hd : decide ((n : Int) < (n : Int)) = false := by simp
            clear hin HRI
            go_wp2_with fail
          all_goals
            clear hgz hgz2
            go_loopw [7, 9] (fun a i wx => ∃ (j g2 : Nat), j ≤ s.size ∧ i = .int .i64 j ∧ a = .slice (some ⟨g2, 0, none⟩) (n + 1) (n + 1) ∧ w2.heap.size ≤ g2 ∧ Hid (BRow wx g2 (runL ps (s.data.toList.take j))) ∧ Hid (Below w2.heap.size w2 wx)) (fun _ i _ => s.size - (intOf i).toNat)
            case atStart => exact ⟨0, w2.heap.size, Nat.zero_le _, rfl, rfl, Nat.le_refl _, HRJ.out.1, HRJ.out.2⟩
            case round =>
              clear HRJ
              obtain ⟨j, g2, hj, rfl, rfl, hg2, hrow, hbe⟩ := hrel
              obtain ⟨wx, hwx⟩ : ∃ wx, wx = wr := ⟨_, rfl⟩
              subst hwx
              have hgz := hbe.out.size
              have hgz2 := hrow.out.lt
              have hol := runL_length ps (s.data.toList.take j)
              rw [HN.out] at hol
              by_cases hlj : j < s.size
              · have hd2 : decide ((j : Int) < (s.size : Int)) = true := by simp; omega
                have q1 : (0 : Int) ≤ (j : Int) := by omega
                have q2 : (j : Int) < (s.size : Int) := by omega
                have HSN : Hid (advL ps (runL ps (s.data.toList.take j)) (s[j].toNat : Int) = runL ps (s.data.toList.take (j + 1))) := by
                  show _ = _
                  rw [List.take_succ_eq_append_getElem (by simpa using hlj), runL_snoc]; rfl
                obtain ⟨old, hold⟩ : ∃ old, runL ps (s.data.toList.take j) = old := ⟨_, rfl⟩
                rw [hold] at HSN hrow hol
                have HPX := Lib.hid (HP2.out.below hbe.out hbb)
                have hbbx : bb < wx.heap.size := Nat.lt_of_lt_of_le hbb hgz
                clear hold
                go_wp2_with fail
                generalize hw4 : World.alloc wx _ = w4
                obtain ⟨hr4, hb4, hz4⟩ := HZ2.out _ _ hw4
                rw [← w3_zero ps old (s[j].toNat : Int) n] at hr4
                have HR4 := Lib.hid hr4; have HB4 := Lib.hid hb4
                clear hw4 hr4 hb4 hz4
                go_loopw [11] (fun i wr => ∃ k : Nat, k ≤ n ∧ i = .int .i64 k ∧ Hid (BRow wr wx.heap.size (rowF n (w3B ps old (s[j].toNat : Int) k))) ∧ Hid (Below wx.heap.size wx wr)) (fun i _ => n - (intOf i).toNat)
                case atStart => exact ⟨0, Nat.zero_le _, rfl, HR4.out, HB4.out⟩
                case round =>
                  clear HR4 HB4
                  obtain ⟨k, hk, rfl, hrow3, hbe3⟩ := hrel
                  have hgz3 := hbe3.out.size
                  have hgz4 := hrow3.out.lt
                  by_cases hlt : k < n
                  · have hd3 : decide ((k : Int) < (n : Int)) = true := by simp; omega
                    have p1 : (0 : Int) ≤ (k : Int) := by omega
                    have p2 : (k : Int) < (n : Int) := by omega
                    have p3 : (k : Int) < (n : Int) + 1 := by omega
                    have p4 : (0 : Int) ≤ (k : Int) + 1 := by omega
                    have p5 : (k : Int) + 1 < (n : Int) + 1 := by omega
                    have p6 : ((k : Int) + 1).toNat = k + 1 := by omega
                    have c1 := (hbe3.out.cell (p := ⟨bb, k * 2, none⟩) hbbx).trans (HPX.out.k k (by rw [HN.out]; exact hlt))
                    have c2 := (hbe3.out.cell (p := ⟨bb, k * 2 + 1, none⟩) hbbx).trans (HPX.out.c k (by rw [HN.out]; exact hlt))
                    have c3 := (hbe3.out.cell (p := ⟨g2, k, none⟩) hgz2).trans (hrow.out.get k (by rw [hol]; omega))
                    have r4 := hrow3.out.get k (by rw [rowF_length]; omega)
                    have r5 := hrow3.out.get (k + 1) (by rw [rowF_length]; omega)
                    obtain ⟨y4, hy4⟩ : ∃ y, (rowF n (w3B ps old (s[j].toNat : Int) k)).getD k false = y := ⟨_, rfl⟩
                    obtain ⟨y5, hy5⟩ : ∃ y, (rowF n (w3B ps old (s[j].toNat : Int) k)).getD (k + 1) false = y := ⟨_, rfl⟩
                    rw [hy4] at r4
                    rw [hy5] at r5
                    have hno := fun (h : tT ps old (s[j].toNat : Int) k = false) => w3_no (n := n) h
                    have hsqs := fun (h : tT ps old (s[j].toNat : Int) k = true) (h2 : seqP (ps.getD k (0, 0)) = true) => w3_seq (n := n) (by rw [HN.out]; exact hlt) h h2
                    have hone := fun (h : tT ps old (s[j].toNat : Int) k = true) (h2 : seqP (ps.getD k (0, 0)) = false) => w3_one (n := n) h h2
                    have htt : tT ps old (s[j].toNat : Int) k = (old.getD k false && tkP (ps.getD k (0, 0)) (s[j].toNat : Int)) := rfl
                    have hmem : ps.getD k (0, 0) ∈ ps := by rw [List.getD_eq_getElem?_getD, List.getElem?_eq_getElem (by rw [HN.out]; exact hlt)]; exact List.getElem_mem _
                    have hq3 := HK.out _ hmem
                    obtain ⟨q, hq⟩ : ∃ q, ps.getD k (0, 0) = q := ⟨_, rfl⟩
                    rw [hq] at c1 c2 hq3 hsqs hone htt
                    obtain ⟨ob, hob⟩ : ∃ b, old.getD k false = b := ⟨_, rfl⟩
                    rw [hob] at c3 htt
                    obtain ⟨tk, htk⟩ : ∃ b, tkP q (s[j].toNat : Int) = b := ⟨_, rfl⟩
                    obtain ⟨sq, hsq⟩ : ∃ b, seqP q = b := ⟨_, rfl⟩
                    rw [htk] at htt
                    have HC1 := Lib.hid (fun w => refTakes_any q (s[j].toNat : Int) w hq3)
                    have HC2 := Lib.hid (fun w => refLong_any q w hq3)
                    rw [htk] at HC1
                    rw [hsq] at HC2 hsqs hone
                    have HNO : Hid (∀ w6, Below wr.heap.size wr w6 → (ob && tk) = false → BRow w6 wx.heap.size (rowF n (w3B ps old (s[j].toNat : Int) (k + 1))) ∧ Below wx.heap.size wx w6) := by
                      intro w6 hb h
                      have h1 := hrow3.out.below hb hgz4
                      rw [hno (by rw [htt, h])] at h1
                      exact ⟨h1, hbe3.out.trans (hb.mono hgz3)⟩
                    have HS1 : Hid (∀ w6, Below wr.heap.size wr w6 → (ob && tk) = true → sq = true → BRow (w6.setCell ⟨wx.heap.size, k, none⟩ (.bool true)) wx.heap.size (rowF n (w3B ps old (s[j].toNat : Int) (k + 1))) ∧ Below wx.heap.size wx (w6.setCell ⟨wx.heap.size, k, none⟩ (.bool true))) := by
                      intro w6 hb h h2
                      have h1 := (hrow3.out.below hb hgz4).put k true
                      rw [hsqs (by rw [htt, h]) h2] at h1
                      exact ⟨h1, (hbe3.out.trans (hb.mono hgz3)).setCell (p := ⟨wx.heap.size, k, none⟩) (Nat.le_refl _) _⟩
                    have HS2 : Hid (∀ w6, Below wr.heap.size wr w6 → (ob && tk) = true → sq = false → BRow (w6.setCell ⟨wx.heap.size, k + 1, none⟩ (.bool true)) wx.heap.size (rowF n (w3B ps old (s[j].toNat : Int) (k + 1))) ∧ Below wx.heap.size wx (w6.setCell ⟨wx.heap.size, k + 1, none⟩ (.bool true))) := by
                      intro w6 hb h h2
                      have h1 := (hrow3.out.below hb hgz4).put (k + 1) true
                      rw [hone (by rw [htt, h]) h2] at h1
                      exact ⟨h1, (hbe3.out.trans (hb.mono hgz3)).setCell (p := ⟨wx.heap.size, k + 1, none⟩) (Nat.le_refl _) _⟩
                    have HCELL : Hid (∀ w6, Below wr.heap.size wr w6 → (w6.cell? ⟨wx.heap.size, k, none⟩ = some (.bool y4) ∧ w6.frozen? ⟨wx.heap.size, k, none⟩ = false) ∧ (w6.cell? ⟨wx.heap.size, k + 1, none⟩ = some (.bool y5) ∧ w6.frozen? ⟨wx.heap.size, k + 1, none⟩ = false) ∧ w6.cell? ⟨bb, k * 2, none⟩ = some (.int .i64 (q.1 : Int)) ∧ w6.cell? ⟨bb, k * 2 + 1, none⟩ = some (.int .u8 q.2)) := fun w6 hb =>
                      ⟨⟨(hb.cell (p := ⟨wx.heap.size, k, none⟩) hgz4).trans r4, (hrow3.out.below hb hgz4).free k⟩, ⟨(hb.cell (p := ⟨wx.heap.size, k + 1, none⟩) hgz4).trans r5, (hrow3.out.below hb hgz4).free (k + 1)⟩, (hb.cell (p := ⟨bb, k * 2, none⟩) (Nat.lt_of_lt_of_le hbbx hgz3)).trans c1, (hb.cell (p := ⟨bb, k * 2 + 1, none⟩) (Nat.lt_of_lt_of_le hbbx hgz3)).trans c2⟩
                    clear hno hsqs hone htt hmem hq hob htk hsq hy4 hy5 r4 r5 hrow3 hbe3 hmk
                    cases ob
                    · have HE : Hid (∀ m, BRow (wr.drewN m) wx.heap.size (rowF n (w3B ps old (s[j].toNat : Int) (k + 1))) ∧ Below wx.heap.size wx (wr.drewN m)) := fun m => HNO.out _ (below_drewN (Below.refl _ _) m) rfl
                      clear HNO HS1 HS2 HCELL HC1 HC2
                      go_wp2_with fail
                      go_quiet (fail)
                      go_wp2_with fail
                      go_roundw
                      case rel => exact ⟨k + 1, by omega, by go_num, (HE.out _).1, (HE.out _).2⟩
                      case measure => simp [intOf]; omega
                    · have HKEEP : Hid (∀ w', Below wr.heap.size wr w' → w'.cell? ⟨g2, k, none⟩ = some (.bool true) ∧ w'.cell? ⟨bb, k * 2, none⟩ = some (.int .i64 (q.1 : Int)) ∧ w'.cell? ⟨bb, k * 2 + 1, none⟩ = some (.int .u8 q.2)) := fun w' h =>
                        ⟨(h.cell (p := ⟨g2, k, none⟩) (Nat.lt_of_lt_of_le hgz2 hgz3)).trans c3, (HCELL.out _ h).2.2.1, (HCELL.out _ h).2.2.2⟩
                      cases tk
                      all_goals
                        go_wp2_with fail
                        go_region_held3 (fun w' => w'.cell? ⟨g2, k, none⟩ = some (.bool true) ∧ w'.cell? ⟨bb, k * 2, none⟩ = some (.int .i64 (q.1 : Int)) ∧ w'.cell? ⟨bb, k * 2 + 1, none⟩ = some (.int .u8 q.2)) (first | exact HKEEP.out _ (Below.refl _ _) | exact HKEEP.out _ (Below.refl _ _).drew | exact HKEEP.out _ (by assumption)) (first
                          | (go_at_call 92; (with_reducible refine (HC1.out _).mono ?_); rintro e w5 ⟨rfl, b5⟩; have bw : Below wr.heap.size wr w5 := (Below.refl _ _).drew.trans b5))
                      · have HE := Lib.hid (HNO.out _ bw rfl)
                        clear HNO HS1 HS2 HCELL HC1 HC2 b5 c1 c2 c3
                        go_wp2_with fail
                        go_roundw
                        case rel => exact ⟨k + 1, by omega, by go_num, HE.out.1, HE.out.2⟩
                        case measure => simp [intOf]; omega
                      · obtain ⟨_, _, c1', c2'⟩ := HCELL.out _ bw
                        have B5 := Lib.hid bw
                        clear b5 c1 c2 c3 bw
                        go_wp2_with fail
                        refine (HC2.out _).mono ?_
                        rintro e w6 ⟨rfl, b6⟩
                        have b6 := B5.out.trans (b6.mono B5.out.size)
                        have B6 := Lib.hid b6
                        obtain ⟨⟨y1, y2⟩, ⟨y3, y4⟩, _, _⟩ := HCELL.out _ b6
                        clear b6 c1' c2' HNO HC1 HC2 HCELL
                        cases sq
                        · have HE := Lib.hid (HS2.out _ B6.out rfl rfl)
                          clear HS1 HS2
                          go_wp2_with fail
                          go_roundw
                          case rel => exact ⟨k + 1, by omega, by go_num, HE.out.1, HE.out.2⟩
                          case measure => simp [intOf]; omega
                        · have HE := Lib.hid (HS1.out _ B6.out rfl rfl)
                          clear HS1 HS2
                          go_wp2_with fail
                          go_roundw
                          case rel => exact ⟨k + 1, by omega, by go_num, HE.out.1, HE.out.2⟩
                          case measure => simp [intOf]; omega
                  · obtain rfl : n = k := by omega
                    have hd3 : decide ((n : Int) < (n : Int)) = false := by simp
                    have h34 := w34 ps old (s[j].toNat : Int)
                    rw [HN.out] at h34
                    have HR5 : Hid (BRow wr wx.heap.size (rowF n (w4B ps old (s[j].toNat : Int) 0))) := by
                      show BRow _ _ _; rw [← h34]; exact hrow3.out
                    have HB5 := hbe3
                    clear hrow3 hbe3 h34 hgz3 hgz4 hmk
                    go_wp2_with fail
                    clear hd3
                    go_loopw [12] (fun i wr => ∃ k : Nat, k ≤ n ∧ i = .int .i64 k ∧ Hid (BRow wr wx.heap.size (rowF n (w4B ps old (s[j].toNat : Int) k))) ∧ Hid (Below wx.heap.size wx wr)) (fun i _ => n - (intOf i).toNat)
                    case atStart => exact ⟨0, Nat.zero_le _, rfl, HR5.out, HB5.out⟩
                    case round =>
                      clear HR5 HB5 hk
                      obtain ⟨k, hk, rfl, hrow3, hbe3⟩ := hrel
                      have hgz3 := hbe3.out.size
                      have hgz4 := hrow3.out.lt
                      by_cases hlt : k < n
                      · have hd3 : decide ((k : Int) < (n : Int)) = true := by simp; omega
                        have p1 : (0 : Int) ≤ (k : Int) := by omega
                        have p2 : (k : Int) < (n : Int) := by omega
                        have p3 : (k : Int) < (n : Int) + 1 := by omega
                        have p4 : (0 : Int) ≤ (k : Int) + 1 := by omega
                        have p5 : (k : Int) + 1 < (n : Int) + 1 := by omega
                        have p6 : ((k : Int) + 1).toNat = k + 1 := by omega
                        have c1 := (hbe3.out.cell (p := ⟨bb, k * 2, none⟩) hbbx).trans (HPX.out.k k (by rw [HN.out]; exact hlt))
                        have c2 := (hbe3.out.cell (p := ⟨bb, k * 2 + 1, none⟩) hbbx).trans (HPX.out.c k (by rw [HN.out]; exact hlt))
                        have r4 := hrow3.out.get k (by rw [rowF_length]; omega)
                        rw [w4_at _ _ _ _ _ (by omega)] at r4
                        have r5 := hrow3.out.get (k + 1) (by rw [rowF_length]; omega)
                        obtain ⟨y5, hy5⟩ : ∃ y, (rowF n (w4B ps old (s[j].toNat : Int) k)).getD (k + 1) false = y := ⟨_, rfl⟩
                        rw [hy5] at r5
                        have hno := fun (h : (nvc ps old (s[j].toNat : Int) k && seqP (ps.getD k (0, 0))) = false) => w4_no (n := n) (by rw [HN.out]; exact hlt) h
                        have hyes := fun (h : nvc ps old (s[j].toNat : Int) k = true) (h2 : seqP (ps.getD k (0, 0)) = true) => w4_yes (n := n) h (by rw [HN.out]; exact hlt) h2
                        have hmem : ps.getD k (0, 0) ∈ ps := by rw [List.getD_eq_getElem?_getD, List.getElem?_eq_getElem (by rw [HN.out]; exact hlt)]; exact List.getElem_mem _
                        have hq3 := HK.out _ hmem
                        obtain ⟨q, hq⟩ : ∃ q, ps.getD k (0, 0) = q := ⟨_, rfl⟩
                        rw [hq] at c1 c2 hq3 hno hyes
                        obtain ⟨nb, hnb⟩ : ∃ b, nvc ps old (s[j].toNat : Int) k = b := ⟨_, rfl⟩
                        rw [hnb] at r4 hno hyes
                        obtain ⟨sq, hsq⟩ : ∃ b, seqP q = b := ⟨_, rfl⟩
                        have HC2 := Lib.hid (fun w => refLong_any q w hq3)
                        rw [hsq] at HC2 hno hyes
                        have HNO : Hid (∀ w6, Below wr.heap.size wr w6 → (nb && sq) = false → BRow w6 wx.heap.size (rowF n (w4B ps old (s[j].toNat : Int) (k + 1))) ∧ Below wx.heap.size wx w6) := by
                          intro w6 hb h
                          have h1 := hrow3.out.below hb hgz4
                          rw [hno h] at h1
                          exact ⟨h1, hbe3.out.trans (hb.mono hgz3)⟩
                        have HS2 : Hid (∀ w6, Below wr.heap.size wr w6 → nb = true → sq = true → BRow (w6.setCell ⟨wx.heap.size, k + 1, none⟩ (.bool true)) wx.heap.size (rowF n (w4B ps old (s[j].toNat : Int) (k + 1))) ∧ Below wx.heap.size wx (w6.setCell ⟨wx.heap.size, k + 1, none⟩ (.bool true))) := by
                          intro w6 hb h h2
                          have h1 := (hrow3.out.below hb hgz4).put (k + 1) true
                          rw [hyes h h2] at h1
                          exact ⟨h1, (hbe3.out.trans (hb.mono hgz3)).setCell (p := ⟨wx.heap.size, k + 1, none⟩) (Nat.le_refl _) _⟩
                        have HCELL : Hid (∀ w6, Below wr.heap.size wr w6 → w6.cell? ⟨wx.heap.size, k + 1, none⟩ = some (.bool y5) ∧ w6.frozen? ⟨wx.heap.size, k + 1, none⟩ = false) := fun w6 hb =>
                          ⟨(hb.cell (p := ⟨wx.heap.size, k + 1, none⟩) hgz4).trans r5, (hrow3.out.below hb hgz4).free (k + 1)⟩
                        clear hno hyes hmem hq hnb hsq hy5 r5 hrow3 hbe3
                        cases nb
                        · have HE := Lib.hid (HNO.out _ (Below.refl _ _) rfl)
                          clear HNO HS2 HCELL HC2
                          go_wp2_with fail
                          go_roundw
                          case rel => exact ⟨k + 1, by omega, by go_num, HE.out.1, HE.out.2⟩
                          case measure => simp [intOf]; omega
                        · go_wp2_with fail
                          refine (HC2.out _).mono ?_
                          rintro e w6 ⟨rfl, b6⟩
                          have B6 := Lib.hid b6
                          obtain ⟨y1, y2⟩ := HCELL.out _ b6
                          clear b6 c1 c2 r4 HC2 HCELL
                          cases sq
                          · have HE := Lib.hid (HNO.out _ B6.out rfl)
                            clear HNO HS2
                            go_wp2_with fail
                            go_roundw
                            case rel => exact ⟨k + 1, by omega, by go_num, HE.out.1, HE.out.2⟩
                            case measure => simp [intOf]; omega
                          · have HE := Lib.hid (HS2.out _ B6.out (by first | rfl | trivial) (by first | rfl | trivial))
                            clear HNO HS2
                            go_wp2_with fail
                            go_roundw
                            case rel => exact ⟨k + 1, by omega, by go_num, HE.out.1, HE.out.2⟩
                            case measure => simp [intOf]; omega
                      · obtain rfl : n = k := by omega
                        have hd3 : decide ((n : Int) < (n : Int)) = false := by simp
                        have h4 := w4_end ps old (s[j].toNat : Int)
                        rw [HN.out, HSN.out] at h4
                        have HE : Hid (BRow wr wx.heap.size (runL ps (s.data.toList.take (j + 1))) ∧ Below w2.heap.size w2 wr) := by
                          refine ⟨?_, hbe.out.trans (hbe3.out.mono hgz)⟩
                          rw [← h4]; exact hrow3.out
                        clear h4 hrow3 hbe3
                        go_wp2_with fail
                        go_roundw
                        case rel => exact ⟨j + 1, wx.heap.size, by omega, by go_num, rfl, by omega, HE.out.1, HE.out.2⟩
                        case measure => simp [intOf]; omega
              · obtain rfl : j = s.size := by omega
                have hd2 : decide ((s.size : Int) < (s.size : Int)) = false := by simp
                have c3 := hrow.out.get n (by rw [hol]; omega)
                rw [List.take_of_length_le (by rw [← Lib.size_eq]; exact Nat.le_refl _)] at c3
                have HX : Hid (concB ps s.data.toList = (runL ps s.data.toList).getD n false) := by show _ = _; unfold concB; rw [HN.out]
                obtain ⟨y, hy⟩ : ∃ y, (runL ps s.data.toList).getD n false = y := ⟨_, rfl⟩
                rw [hy] at c3 HX
                have p1 : (0 : Int) ≤ (n : Int) := by omega
                have p3 : (n : Int) < (n : Int) + 1 := by omega
                have HB9 := Lib.hid (HB2.out.trans (hbe.out.mono HB2.out.size))
                clear hy hrow hmk hbe
                go_wp2_with fail
                go_ret
                exact ⟨by rw [HM.out, HX.out]; rfl, HB9.out⟩
end Go.Proofs.YtkookkhlgllneaaDoor
