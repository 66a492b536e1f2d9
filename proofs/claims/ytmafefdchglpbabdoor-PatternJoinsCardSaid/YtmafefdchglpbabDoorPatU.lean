/-
  The walk of pattern.Literal: for every string.
-/
import Derived.Test.YtmafefdchglpbabDoorPatI
import Derived.Lib.AppendStr
import Derived.Lib.UnsafeStr
import Derived.Lib.BufferWrite
import Derived.Laws.IdiomStrings
namespace Go.Proofs.YtmafefdchglpbabDoor
open Go.RowKit

/-- the text of a literal -/
def spB (c : UInt8) : Bool := c == 92 || c == 42 || c == 63
def lit1 (c : UInt8) : List UInt8 := if spB c = true then [92, c] else [c]
def litL (l : List UInt8) : List UInt8 := l.flatMap lit1
def litB (s : ByteArray) : ByteArray := if pathB s = true then ⟨(litL s.data.toList).toArray⟩ else ⟨#[]⟩
theorem litL_succ (s : ByteArray) (k : Nat) (h : k < s.size) : litL (s.data.toList.take (k + 1)) = litL (s.data.toList.take k) ++ lit1 s[k] := by
  unfold litL
  rw [List.take_succ_eq_append_getElem (by simpa using h), List.flatMap_append]; simp; rfl
theorem litL_le (l : List UInt8) : (litL l).length ≤ 2 * l.length := by
  induction l with
  | nil => simp [litL]
  | cons a t ih =>
    unfold litL at ih ⊢
    rw [List.flatMap_cons, List.length_append]
    have : (lit1 a).length ≤ 2 := by unfold lit1; split <;> simp
    simp only [List.length_cons]; omega
theorem sp_geF : ∀ c : Fin 256, decide (Lib.indexByte [92, 42, 63] (UInt8.ofNat c.val) ≥ 0) = spB (UInt8.ofNat c.val) := by decide +kernel
theorem sp_ge (c : UInt8) : decide (Lib.indexByte [92, 42, 63] c ≥ 0) = spB c := by
  have h := sp_geF ⟨c.toNat, UInt8.toNat_lt _⟩
  simpa using h
theorem Tryd.infoBy : (Tryd.prog.info? 5).map (fun i => (i.zero, i.size, i.bytes)) = some (some (.int .u8 0), 1, 1) := by kernel_rfl
/-- append(own, one byte) -/
theorem wpList_append_b1 {P : Program} {w : World} {ops : Array Oper} {rest : List Oper} {o : Oper} {a : Act} {Q : Exit → Act → World → Prop} (hgd : o.guard = none) (s x : Operand) (t e : TypeId)
    (ho : o.op = .call { callee := .builtin .append, args := #[s, x], argTypes := #[t, t] }) (ht : P.underlying t = some (.slice e)) (hi : (P.info? e).map (fun i => (i.zero, i.size, i.bytes)) = some (some (.int .u8 0), 1, 1))
    (base : Nat) (v : Value) (xs : List UInt8) (n : Nat) (hs : a.eval s = v) (hn : n = xs.length) (hown : w.ownsRow base e 1 v n (Lib.byteCells xs))
    (g : Nat) (y : UInt8) (hx : a.eval x = .slice (some ⟨g, 0, none⟩) 1 1) (hc : w.cell? ⟨g, 0, none⟩ = some (.int .u8 (y.toNat : Int)))
    (hlen : n ≤ 100000000) (hbase : base ≤ w.heap.size)
    (h : ∀ sp cap w', Hid (w'.ownsRow base e 1 (.slice sp (n + 1) cap) (n + 1) (Lib.byteCells (xs ++ [y]))) → w.grownBy w' v.ownBlock → wpList P ops Q rest (a.put o.dst (.slice sp (n + 1) cap)) w') : wpList P ops Q (o :: rest) a w := by
  obtain ⟨i0, hi0, hz0, hz1, hz2⟩ := info_parts hi
  refine wpList_append_own w hgd s x t ho base e i0 (.int .u8 0) 1 1 ht hi0 hz0 hz1 hz2 rfl (by decide) v n _ hs hown ⟨g, 0, none⟩ 1 1 [.int .u8 (y.toNat : Int)] hx rfl ?_ (by intro u hu; simp at hu; subst hu; rfl) (by unfold maxLen; omega) (by omega) hbase ?_
  · intro j u hj
    match j, hj with
    | 0, hj => simp at hj; subst hj; rw [Addr.add_mid]; exact hc
  · intro v' w' h1 h2 _
    obtain ⟨sp, cap, rfl⟩ := own_shapeP h1
    exact h sp cap w' (by show World.ownsRow _ _ _ _ _ _ _; rw [Lib.byteCells_append]; exact h1) h2
theorem run_string_ownP {w : World} {base e : Nat} {sp : Option Addr} {n cap : Nat} {l : List UInt8} (h : w.ownsRow base e 1 (.slice sp n cap) n (Lib.byteCells l)) (hn : n = l.length) :
    (convert 38 9 (.slice sp n cap)).run Tryd.prog w = .ok (.string ⟨l.toArray⟩) w := by
  subst hn
  obtain ⟨_, ⟨e, h0⟩ | ⟨g, cap', cur, e, hb, hg, hle, _, hsz, htk⟩⟩ := h
  · have : l = [] := List.eq_nil_of_length_eq_zero h0
    subst this
    injection e with e1 e2 e3
    subst e1 e3
    rw [List.length_nil, run_convert_bytes_string w 38 9 5 none 0 0 Tryd.underlying38 Tryd.underlying5 Tryd.underlying9]
    rfl
  · rw [e]
    refine run_convert_bytes_back w 38 9 5 _ cap' l Tryd.underlying38 Tryd.underlying5 Tryd.underlying9 (fun j hj => ?_)
    rw [Addr.add_mid, Nat.zero_add, cell_of_row w g j cur _ _ hg]
    have h1 : (cur.toList.take (l.length * 1))[j]? = some (.int .u8 (l[j].toNat : Int)) := by rw [htk]; simp [Lib.byteCells, List.getElem?_eq_getElem hj]
    rw [List.getElem?_take, if_pos (by omega)] at h1
    simpa using h1
set_option maxRecDepth 100000 in
set_option maxHeartbeats 1000000 in
theorem Literal_any (s : ByteArray) (w : World) :
    Calls Tryd.prog 13 #[.string s] w fun e w' => e = .returned (.string (litB s)) ∧ Below w.heap.size w w' := by
  have HP := Lib.hid (fun w => Path_any s w)
  have HL : Hid (litB s = if pathB s = true then ⟨(litL s.data.toList).toArray⟩ else ⟨#[]⟩) := rfl
  have hps := pathB_size (s := s)
  obtain ⟨pb, hpb⟩ : ∃ b, pathB s = b := ⟨_, rfl⟩
  rw [hpb] at HP HL hps
  clear hpb
  cases pb
  · clear hps
    have HX : Hid (litB s = ⟨#[]⟩) := by show _ = _; rw [HL.out, if_neg (by simp)]
    clear HL
    go_enter Tryd.func13, Tryd.ntmps13
    go_wp2_with fail
    refine (HP.out _).mono ?_
    rintro e w1 ⟨rfl, b1⟩
    go_wp2_with fail
    go_ret
    exact ⟨by rw [HX.out]; rfl, b1⟩
  · have hsz := hps rfl
    have HX : Hid (litB s = ⟨(litL s.data.toList).toArray⟩) := by show _ = _; rw [HL.out, if_pos rfl]
    clear HL hps
    go_enter Tryd.func13, Tryd.ntmps13
    go_wp2_with fail
    refine (HP.out _).mono ?_
    rintro e w1 ⟨rfl, b1⟩
    have HB1 := Lib.hid b1
    have hz1 := b1.size
    clear b1
    go_wp2_with fail
    go_loopw [3, 10] (fun v i wr => ∃ (k N : Nat) (sp : Option Addr) (cap : Nat), k ≤ s.size ∧ i = .int .i64 k ∧ N ≤ 400 ∧ Hid (N = (litL (s.data.toList.take k)).length) ∧ v = .slice sp N cap ∧ Hid (wr.ownsRow w.heap.size 5 1 (.slice sp N cap) N (Lib.byteCells (litL (s.data.toList.take k)))) ∧ Hid (Below w.heap.size w wr)) (fun _ i _ => s.size - (intOf i).toNat)
    case atStart => exact ⟨0, 0, none, 0, Nat.zero_le _, rfl, by omega, rfl, rfl, World.ownsRow_nil _ _ _ _, HB1.out⟩
    case round =>
      clear HB1
      obtain ⟨k, N, sp, cap, hk, rfl, hN4, HN, rfl, hown, hbe⟩ := hrel
      have hbs := hbe.out.size
      by_cases hlt : k < s.size
      · have hd : decide ((k : Int) < (s.size : Int)) = true := by simp; omega
        have p1 : (0 : Int) ≤ (k : Int) := by omega
        have p2 : (k : Int) < (s.size : Int) := by omega
        have HS := Lib.hid (litL_succ s k hlt)
        have hN5 : (litL (s.data.toList.take (k + 1))).length ≤ 400 := by
          have h1 := litL_le (s.data.toList.take (k + 1))
          have h2 : (s.data.toList.take (k + 1)).length ≤ k + 1 := List.length_take_le _ _
          omega
        rw [HS.out, List.length_append, ← HN.out] at hN5
        obtain ⟨T, hT⟩ : ∃ T, litL (s.data.toList.take k) = T := ⟨_, rfl⟩
        rw [hT] at HN hown HS
        clear hT
        have hc : ∀ w, Calls Tryd.prog 21 #[.string ⟨#[92, 42, 63]⟩, .int .u8 (s[k].toNat : Int)] w fun e w' => e = .returned (.int .i64 (Lib.indexByte [92, 42, 63] s[k])) ∧ w = w' := fun w => (indexByte_anyP ⟨#[92, 42, 63]⟩ (s[k].toNat : Int) w).mono fun e w' ⟨he, hw⟩ => ⟨by rw [he]; simp, hw⟩
        have hge := sp_ge s[k]
        obtain ⟨v, hv⟩ : ∃ v, Lib.indexByte [92, 42, 63] s[k] = v := ⟨_, rfl⟩
        rw [hv] at hc hge
        have HC := Lib.hid hc
        clear hv hc
        cases hsp : spB s[k]
        · rw [hsp] at hge
          have HL1 : Hid (lit1 s[k] = [s[k]]) := by show _ = _; unfold lit1; rw [if_neg (by rw [hsp]; simp)]
          rw [HL1.out] at hN5 HS
          clear hsp
          go_wp2_with (first
            | (at_builtin; refine wpList_append_b1 rfl (.tmp 21) (.tmp 25) 38 5 rfl Tryd.underlying38 Tryd.infoBy w.heap.size _ T N rfl HN.out (hown.out.alloc _) wr.heap.size s[k] rfl (by simp) (by omega) (by simp; omega) ?_; intro sp5 cap5 w5 hown5 hg5)
            | (go_at_call 21; refine (HC.out _).mono ?_; rintro e w6 ⟨rfl, rfl⟩))
          have hbe5 := (hbe.out.alloc hbs (.cells #[.int .u8 (s[k].toNat : Int)] 5)).grown hg5 (by simp; omega) (own_baseP hown.out)
          go_roundw
          case rel => exact ⟨k + 1, N + 1, sp5, cap5, by omega, by go_num, hN5, by show _ = _; rw [HS.out, List.length_append, ← HN.out]; rfl, rfl, by rw [HS.out]; exact hown5, hbe5⟩
          case measure => simp [intOf]; omega
        · rw [hsp] at hge
          have HL1 : Hid (lit1 s[k] = [92, s[k]]) := by show _ = _; unfold lit1; rw [if_pos hsp]
          rw [HL1.out] at hN5 HS
          clear hsp
          go_wp2_with (first
            | (at_builtin; refine wpList_append_b1 rfl (.tmp 18) (.tmp 19) 38 5 rfl Tryd.underlying38 Tryd.infoBy w.heap.size _ T N rfl HN.out (hown.out.alloc _) wr.heap.size 92 rfl (by simp) (by omega) (by simp; omega) ?_; intro sp4 cap4 w4 hown4 hg4; have hz4 := hg4.size; rw [World.size_alloc] at hz4; have HN4 : Hid (N + 1 = (T ++ [92]).length) := (by show _ = _; rw [List.length_append, ← HN.out]; rfl))
            | (at_builtin; refine wpList_append_b1 rfl (.tmp 21) (.tmp 25) 38 5 rfl Tryd.underlying38 Tryd.infoBy w.heap.size _ (T ++ [92]) (N + 1) rfl HN4.out (hown4.out.alloc _) w4.heap.size s[k] rfl (by simp) (by omega) (by simp; omega) ?_; intro sp5 cap5 w5 hown5 hg5)
            | (go_at_call 21; refine (HC.out _).mono ?_; rintro e w6 ⟨rfl, rfl⟩))
          have hbe4 := (hbe.out.alloc hbs (.cells #[.int .u8 92] 5)).grown hg4 (by simp; omega) (own_baseP hown.out)
          have hbe5 := (hbe4.alloc (by omega) (.cells #[.int .u8 (s[k].toNat : Int)] 5)).grown hg5 (by simp; omega) (own_baseP hown4.out)
          go_roundw
          case rel =>
            refine ⟨k + 1, N + 1 + 1, sp5, cap5, by omega, by go_num, hN5, ?_, rfl, ?_, hbe5⟩
            · show _ = _; rw [HS.out, List.length_append, ← HN.out]; rfl
            · rw [HS.out]
              have := hown5.out
              show World.ownsRow _ _ _ _ _ _ _
              rw [List.append_assoc] at this
              exact this
          case measure => simp [intOf]; omega
      · obtain rfl : k = s.size := by omega
        have hd : decide ((s.size : Int) < (s.size : Int)) = false := by simp
        have HALL : Hid (s.data.toList.take s.size = s.data.toList) := List.take_of_length_le (by rw [← Lib.size_eq]; exact Nat.le_refl _)
        rw [HALL.out] at HN hown
        have hcv := run_string_ownP hown.out HN.out
        obtain ⟨T, hT⟩ : ∃ T, litL s.data.toList = T := ⟨_, rfl⟩
        rw [hT] at hcv HX
        clear hT hown HALL
        go_wp2_with fail
        go_ret
        exact ⟨by rw [HX.out]; rfl, hbe.out⟩
end Go.Proofs.YtmafefdchglpbabDoor
