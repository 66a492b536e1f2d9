/-
  The walks of document.appendWord and document.Word: the encoded form of a word (conditions: the slice appended to is the call's own; the lengths add up to at most 2^40).
-/
import Derived.Test.YtbfgkbcpkldofaaDoorDocA
import Derived.Lib.AppendStr
import Derived.Lib.UnsafeStr
import Derived.Lib.BufferWrite
import Derived.Laws.IdiomStrings
import Derived.Deep.RegionHeld3
import Derived.Deep.DrawnRows
import Derived.BigRegion
import Derived.Deep.MidRow
namespace Go.Proofs.YtbfgkbcpkldofaaDoor
open Go.RowKit

/-- an upper-case hexadecimal digit -/
def hexU (n : Nat) : UInt8 := if n < 10 then 48 + n.toUInt8 else 55 + n.toUInt8
/-- the encoded form of one byte of a word; of a word -/
def encB (c : UInt8) : List UInt8 := if plnB c.toNat then [c] else [37, hexU (c.toNat / 16), hexU (c.toNat % 16)]
def wordL (l : List UInt8) : List UInt8 := if l = [] then [126] else l.flatMap encB

theorem encB_plain {c : UInt8} (h : plnB c.toNat = true) : encB c = [c] := by unfold encB; rw [if_pos h]
theorem encB_esc {c : UInt8} (h : plnB c.toNat = false) : encB c = [37, hexU (c.toNat / 16), hexU (c.toNat % 16)] := by unfold encB; rw [if_neg (by rw [h]; simp)]
theorem encB_le (c : UInt8) : (encB c).length ≤ 3 := by unfold encB; split <;> simp
theorem flat_le (l : List UInt8) : (l.flatMap encB).length ≤ 3 * l.length := by
  induction l with
  | nil => simp
  | cons a t ih => have := encB_le a; simp only [List.flatMap_cons, List.length_append, List.length_cons]; omega
theorem wordL_le (l : List UInt8) : (wordL l).length ≤ 3 * l.length + 1 := by
  unfold wordL; split
  · simp
  · have := flat_le l; omega
theorem take_succ_data (s : ByteArray) (k : Nat) (h : k < s.size) : s.data.toList.take (k + 1) = s.data.toList.take k ++ [s[k]] := by
  rw [List.take_succ_eq_append_getElem (by simpa using h)]; rfl
theorem flat_succ (s : ByteArray) (k : Nat) (h : k < s.size) : (s.data.toList.take (k + 1)).flatMap encB = (s.data.toList.take k).flatMap encB ++ encB s[k] := by
  rw [take_succ_data s k h, List.flatMap_append]; simp
theorem take_all_data (s : ByteArray) : s.data.toList.take s.size = s.data.toList := List.take_of_length_le (by rw [← Lib.size_eq]; exact Nat.le_refl _)

theorem Tryd.info5 : (Tryd.prog.info? 5).map (fun i => (i.zero, i.size, i.bytes)) = some (some (.int .u8 0), 1, 1) := by kernel_rfl
theorem cells_of_own {w : World} {base e : Nat} {v : Value} {l : List UInt8} (h : w.ownsRow base e 1 v l.length (Lib.byteCells l)) :
    (v = .slice none 0 0 ∧ l = []) ∨ ∃ g cap, v = .slice (some ⟨g, 0, none⟩) l.length cap ∧ base ≤ g ∧ g < w.heap.size ∧ ∀ j (hj : j < l.length), w.cell? ⟨g, j, none⟩ = some (.int .u8 (l[j].toNat : Int)) := by
  obtain ⟨_, ⟨rfl, h0⟩ | ⟨g, cap, cur, rfl, hb, hg, hle, _, hsz, htk⟩⟩ := h
  · exact .inl ⟨rfl, List.eq_nil_of_length_eq_zero h0⟩
  · refine .inr ⟨g, cap, rfl, hb, (Array.getElem?_eq_some_iff.1 hg).1, fun j hj => ?_⟩
    rw [cell_of_row w g j cur e _ hg]
    have h1 : (cur.toList.take (l.length * 1))[j]? = some (.int .u8 (l[j].toNat : Int)) := by rw [htk]; simp [Lib.byteCells, List.getElem?_eq_getElem hj]
    rw [List.getElem?_take, if_pos (by omega)] at h1
    simpa using h1
theorem run_string_own {w : World} {base e : Nat} {v : Value} {l : List UInt8} (h : w.ownsRow base e 1 v l.length (Lib.byteCells l)) :
    (convert 51 9 v).run Tryd.prog w = .ok (.string ⟨l.toArray⟩) w := by
  rcases cells_of_own h with ⟨rfl, rfl⟩ | ⟨g, cap, rfl, _, _, hc⟩
  · rw [run_convert_bytes_string w 51 9 5 none 0 0 Tryd.underlying51 Tryd.underlying5 Tryd.underlying9]
    kernel_rfl
  · exact run_convert_bytes_back w 51 9 5 _ cap l Tryd.underlying51 Tryd.underlying5 Tryd.underlying9 (fun j hj => by rw [Addr.add_mid, Nat.zero_add]; exact hc j hj)

/-- the result of a function that has appended to a slice of the call's own: l is what it holds now -/
def AppRes (base : Nat) (w : World) (l : List UInt8) (e : Ending) (w' : World) : Prop := ∃ v, e = .returned v ∧ Hid (w'.ownsRow base 5 1 v l.length (Lib.byteCells l)) ∧ Below base w w'

theorem hex_index (n : Nat) (h : n < 16) (w : World) : (Instr.index 9 (.string ⟨#[48, 49, 50, 51, 52, 53, 54, 55, 56, 57, 65, 66, 67, 68, 69, 70]⟩) (.int .u8 (n : Int))).run Tryd.prog w = .ok (.int .u8 ((hexU n).toNat : Int)) w := by
  rcases (by omega : n = 0 ∨ n = 1 ∨ n = 2 ∨ n = 3 ∨ n = 4 ∨ n = 5 ∨ n = 6 ∨ n = 7 ∨ n = 8 ∨ n = 9 ∨ n = 10 ∨ n = 11 ∨ n = 12 ∨ n = 13 ∨ n = 14 ∨ n = 15) with rfl | rfl | rfl | rfl | rfl | rfl | rfl | rfl | rfl | rfl | rfl | rfl | rfl | rfl | rfl | rfl <;> kernel_rfl
theorem cells_newD (w : World) (L : List Value) (t : TypeId) : ∀ j u, L[j]? = some u → ((w.alloc (.cells L.toArray t)).drew).cell? ((⟨w.heap.size, 0, none⟩ : Addr).add j) = some u := by
  intro j u hj
  have h : ((w.alloc (.cells L.toArray t)).drew).heap[w.heap.size]? = some (.cells L.toArray t (0, 0)) := heap_alloc_new w _
  rw [Addr.add_mid, Nat.zero_add, cell_of_row _ w.heap.size j _ t (0, 0) h]
  simpa using hj
/-- append(own, src...) as a step of a region that draws its order -/
theorem step_append_own {P : Program} {w : World} {ops : Array Oper} {o : Oper} {a : Act} {K : Act → World → Prop} {Q : Exit → Act → World → Prop} {E : Prop} (hgd : o.guard = none) (s x : Operand) (t : TypeId)
    (ho : o.op = .call { callee := .builtin .append, args := #[s, x], argTypes := #[t, t] })
    (base : Nat) (e : TypeId) (i : TypeInfo) (z : Value) (size bytes : Nat) (ht : P.underlying t = some (.slice e)) (hi : P.info? e = some i) (hz : i.zero = some z)
    (hsize : i.size = size) (hby : i.bytes = bytes) (hzs : z.cells.size = size) (hsz : 0 < size)
    (v : Value) (n : Nat) (xs : List Value) (hs : a.eval s = v) (hown : w.ownsRow base e size v n xs)
    (ad : Addr) (m c : Nat) (news : List Value) (hx : a.eval x = .slice (some ad) m c) (hl : news.length = m * size) (hnews : ∀ j u, news[j]? = some u → w.cell? (ad.add j) = some u) (h1 : ∀ u ∈ news, u.oneCell' = true)
    (h63 : n + m ≤ maxLen) (hbytes : (n + m) * bytes ≤ 140737488355328) (hbase : base ≤ w.heap.size)
    (h : ∀ v' w', w'.ownsRow base e size v' (n + m) (xs ++ news) → w.grownBy w' v.ownBlock → (v' = .slice none 0 0 ↔ v = .slice none 0 0 ∧ m = 0) → K (a.put o.dst v') w') :
    if Region.wanted o (yielded ops a.tmps) = true then Oper.wp P o a w K Q else E := by
  have hw : Region.wanted o (yielded ops a.tmps) = true := by simp [Region.wanted, hgd]
  rw [if_pos hw]
  exact wp_append_own w s x t ho base e i z size bytes ht hi hz hsize hby hzs hsz v n xs hs hown ad m c news hx hl hnews h1 h63 hbytes hbase h
theorem and15F : ∀ c : Fin 256, bits .and .u8 (c.val : Int) 15 = (c.val : Int) % 16 := by decide +kernel
theorem and15 (c : UInt8) : bits .and .u8 (c.toNat : Int) 15 = (c.toNat : Int) % 16 := and15F ⟨c.toNat, UInt8.toNat_lt _⟩
theorem own_base {w : World} {base e size : Nat} {v : Value} {n : Nat} {xs : List Value} (h : w.ownsRow base e size v n xs) : ∀ k, v.ownBlock = some k → base ≤ k := fun k hk => (h.lt k hk).1

set_option maxHeartbeats 1000000 in
theorem appendWord_any (base : Nat) (v : Value) (xs : List UInt8) (s : ByteArray) (w : World) (hown : w.ownsRow base 5 1 v xs.length (Lib.byteCells xs)) (hbase : base ≤ w.heap.size) (hlen : xs.length + 3 * s.size + 1 ≤ 1099511627776) :
    Calls Tryd.prog 83 #[v, .string s] w (AppRes base w (xs ++ wordL s.data.toList)) := by
  have HOWN := Lib.hid hown; clear hown
  obtain ⟨i0, hi0, hz0, hz1, hz2⟩ := info_parts Tryd.info5
  have HI0 := Lib.hid hi0; have HZ0 := Lib.hid hz0; have HZ1 := Lib.hid hz1; have HZ2 := Lib.hid hz2
  clear hi0 hz0 hz1 hz2
  by_cases h0 : s.size = 0
  · have e0 : s.toList = [] := by rw [Lib.toList_data]; exact List.eq_nil_of_length_eq_zero (by rw [← Lib.size_eq]; exact h0)
    have HW := Lib.hid (show wordL s.data.toList = [126] by rw [← Lib.toList_data, e0]; rfl)
    generalize wordL s.data.toList = wl at *
    clear h0
    go_enter Tryd.func83, Tryd.ntmps83
    go_wp2_with (at_builtin; (refine Lib.wpList_append_own_string _ rfl (.tmp 9) (.const (.string ⟨#[126]⟩)) 51 9 rfl base 5 i0 Tryd.underlying51 Tryd.underlying9 HI0.out HZ0.out HZ1.out HZ2.out _ _ _ rfl HOWN.out ⟨#[126]⟩ rfl (by unfold maxLen; show xs.length + 1 ≤ _; omega) (by show xs.length + 1 ≤ _; omega) hbase ?_; intro v' w1 hown1 hg1 _; have HO1 := Lib.hid hown1; clear hown1))
    go_ret
    refine ⟨v', rfl, ?_, (Below.refl _ _).grown hg1 hbase (own_base HOWN.out)⟩
    rw [HW.out]
    have := HO1.out
    rw [show (⟨#[126]⟩ : ByteArray).size = 1 from rfl] at this
    show World.ownsRow _ _ _ _ _ _ _
    simpa [Lib.byteCells_append, Lib.strCells_eq] using this
  · have e0 : s.toList.isEmpty = false := by
      rw [Lib.toList_data, List.isEmpty_eq_false_iff]
      intro h; rw [Lib.size_eq, h] at h0; simp at h0
    have HW := Lib.hid (show wordL s.data.toList = (s.data.toList.take s.size).flatMap encB by
      unfold wordL; rw [take_all_data, if_neg (by intro h; rw [Lib.size_eq, h] at h0; simp at h0)])
    generalize wordL s.data.toList = wl at *
    clear h0
    go_enter Tryd.func83, Tryd.ntmps83
    go_wp2_with fail
    go_loopw [0, 13] (fun b i wr => ∃ k : Nat, k ≤ s.size ∧ i = .int .i64 k ∧ Hid (wr.ownsRow base 5 1 b (xs ++ (s.data.toList.take k).flatMap encB).length (Lib.byteCells (xs ++ (s.data.toList.take k).flatMap encB))) ∧ Below base w wr) (fun _ i _ => s.size - (intOf i).toNat)
    case atStart => exact ⟨0, by omega, rfl, by show World.ownsRow _ _ _ _ _ _ _; simpa using HOWN.out, Below.refl _ _⟩
    case round =>

      obtain ⟨k, hk, rfl, hown, hbe⟩ := hrel
      by_cases hlt : k < s.size
      · have HS := Lib.hid (flat_succ s k hlt)
        have hle := flat_le (s.data.toList.take k)
        have hle2 : (s.data.toList.take k).length ≤ k := List.length_take_le _ _
        have hbs := Nat.le_trans hbase hbe.size
        generalize (s.data.toList.take k).flatMap encB = fl at *
        clear HOWN
        cases hp : plnB (s[k].toNat)
        · have HK := Lib.hid (encB_esc hp)
          have HP := Lib.hid hp; clear hp
          have hc256 : s[k].toNat < 256 := UInt8.toNat_lt _
          have hx1 := hex_index (s[k].toNat / 16) (by omega)
          have hx2 := hex_index (s[k].toNat % 16) (by omega)
          rw [show ((s[k].toNat / 16 : Nat) : Int) = (s[k].toNat : Int) / 16 by omega] at hx1
          rw [show ((s[k].toNat % 16 : Nat) : Int) = (s[k].toNat : Int) % 16 by omega] at hx2
          have hand := and15 s[k]
          go_wp2_with (go_at_call 110; refine (plain_any _ _).mono ?_; rintro e w' ⟨rfl, rfl⟩; rw [HP.out])
          go_region_held3 (fun _ => True) (trivial) ((refine step_append_own rfl (.tmp 25) (.tmp 32) 51 (by rfl) base 5 i0 (.int .u8 0) 1 1 Tryd.underlying51 HI0.out HZ0.out HZ1.out HZ2.out rfl (by decide) _ _ _ (by rfl) (by exact (hown.out.alloc _).drew) ⟨wr.heap.size, 0, none⟩ 3 3 (Lib.byteCells [37, hexU (s[k].toNat / 16), hexU (s[k].toNat % 16)]) (by rfl) (by rfl) (by exact cells_newD _ _ _) (Lib.byteCells_one _) (by unfold maxLen; simp only [List.length_append]; omega) (by simp only [List.length_append]; omega) (by simp; omega) ?_; intro v' w1 hown1 hg1 _; have HO1 := Lib.hid hown1; clear hown1))
          all_goals
            go_wp2
            go_roundw
            case rel =>
              refine ⟨k + 1, by omega, by go_num, ?_, ?_⟩
              · rw [HS.out, HK.out]
                have := HO1.out
                show World.ownsRow _ _ _ _ _ _ _
                simpa [Lib.byteCells_append, Lib.byteCells, Nat.add_assoc] using this
              · exact ((hbe.alloc hbs _).drew).grown hg1 (by simp; omega) (own_base hown.out)
            case measure => simp [intOf]; omega
        · have HK := Lib.hid (encB_plain hp)
          have HP := Lib.hid hp; clear hp
          go_wp2_with (first
            | (go_at_call 110; refine (plain_any _ _).mono ?_; rintro e w' ⟨rfl, rfl⟩; rw [HP.out])
            | (at_builtin; refine wpList_append_own _ rfl (.tmp 21) (.tmp 23) 51 rfl base 5 i0 (.int .u8 0) 1 1 Tryd.underlying51 HI0.out HZ0.out HZ1.out HZ2.out rfl (by decide) _ _ _ rfl (hown.out.alloc _) ⟨wr.heap.size, 0, none⟩ 1 1 [.int .u8 (s[k].toNat : Int)] rfl rfl (cell_one_new _ _ _) (by intro u hu; simp at hu; subst hu; rfl) (by unfold maxLen; simp only [List.length_append]; omega) (by simp only [List.length_append]; omega) (by simp; omega) ?_; intro v' w1 hown1 hg1 _; have HO1 := Lib.hid hown1; clear hown1))
          go_roundw
          case rel =>
            refine ⟨k + 1, by omega, by go_num, ?_, ?_⟩
            · rw [HS.out, HK.out]
              have := HO1.out
              show World.ownsRow _ _ _ _ _ _ _
              simpa [Lib.byteCells_append, Lib.byteCells, Nat.add_assoc] using this
            · exact (hbe.alloc hbs _).grown hg1 (by simp; omega) (own_base hown.out)
          case measure => simp [intOf]; omega
      · obtain rfl : k = s.size := by omega
        go_wp2
        go_ret
        exact ⟨u0, rfl, by rw [HW.out]; exact hown, hbe⟩
end Go.Proofs.YtbfgkbcpkldofaaDoor
