/-
  The walks of small functions of package document: which bytes are letters or digits, which stand for themselves, where a byte is in a string, which strings are names (for all arguments that are named in each theorem).
-/
import Derived.Test.YtecllfbadciaoaaGreatDoorZip
import Derived.Test.YtecllfbadciaoaaGreatDoorProg
import Derived.WalkKit
import Derived.WalkSpells
import Derived.WalkLawsBesides
import Derived.Deep.QuietTactic
import Derived.BigQuiet
import Derived.Lib.Hide
import Derived.Lib.Bytealg
import Derived.Lib.AppendStr
import Derived.Lib.UnsafeStr
import Derived.Lib.BufferWrite
import Derived.Laws.IdiomStrings
import Derived.Deep.RegionHeld3
import Derived.Deep.DrawnRows
import Derived.BigRegion
import Derived.Deep.MidRow
import Derived.Test.YtecllfbadciaoaaGreatDoorChecked
import Derived.Lib.SplitLaws
import Derived.Lib.IndexBytes
import Derived.Below
import Derived.Deep.OwnRows
import Derived.Deep.LoopGhost
import Derived.IntWalk
import Derived.OwnWalk
import Derived.Laws.Entries
set_option maxRecDepth 100000
set_option maxHeartbeats 8000000
namespace Go.Proofs.YtecllfbadciaoaaGreatDoor
open Go.RowKit
theorem ret_bool {a b : Bool} (h : a = b) : Ending.returned (.bool a) = .returned (.bool b) := by rw [h]
theorem ret_int {k : IntKind} {a b : Int} (h : a = b) : Ending.returned (.int k a) = .returned (.int k b) := by rw [h]
def digB (c : Int) : Bool := decide (48 ≤ c) && decide (c ≤ 57)
def ldB (c : Int) : Bool := (decide (97 ≤ c) && decide (c ≤ 122)) || digB c
def plnB (c : Int) : Bool := (decide (33 ≤ c) && decide (c ≤ 125)) && (c != 37)
theorem digit_any (c : Int) (w : World) :
 Calls Tryz.prog 124 #[.int .u8 c] w fun e w' => e = .returned (.bool (digB c)) ∧ w = w' := by
 by_cases h1 : 48 ≤ c
 ·go_enter Tryz.func124, Tryz.ntmps124
  go_wp2
  go_ret
  exact ⟨ret_bool (by simp [digB, h1]), rfl⟩
 ·go_enter Tryz.func124, Tryz.ntmps124
  go_wp2
  go_ret
  exact ⟨ret_bool (by unfold digB; rw [decide_eq_false (p := 48 ≤ c) (by omega)]; rfl), rfl⟩
theorem letterOrDigit_any (c : Int) (w : World) :
 Calls Tryz.prog 105 #[.int .u8 c] w fun e w' => e = .returned (.bool (ldB c)) ∧ w = w' := by
 by_cases h1 : 97 ≤ c
 ·by_cases h2 : c ≤ 122
  ·go_enter Tryz.func105, Tryz.ntmps105
   go_wp2
   go_ret
   exact ⟨ret_bool (by unfold ldB; rw [decide_eq_true h1, decide_eq_true h2]; rfl), rfl⟩
  ·go_enter Tryz.func105, Tryz.ntmps105
   go_wp2_with (go_at_call 124; refine (digit_any _ _).mono ?_; rintro e w' ⟨rfl, rfl⟩)
   go_ret
   exact ⟨ret_bool (by unfold ldB; rw [decide_eq_false (p := c ≤ _) (by omega)]; simp), rfl⟩
 ·go_enter Tryz.func105, Tryz.ntmps105
  go_wp2_with (go_at_call 124; refine (digit_any _ _).mono ?_; rintro e w' ⟨rfl, rfl⟩)
  go_ret
  exact ⟨ret_bool (by unfold ldB; rw [decide_eq_false (p := _ ≤ c) (by omega)]; simp), rfl⟩
theorem plain_any (c : Int) (w : World) :
 Calls Tryz.prog 114 #[.int .u8 c] w fun e w' => e = .returned (.bool (plnB c)) ∧ w = w' := by
 by_cases h1 : 33 ≤ c
 ·by_cases h2 : c ≤ 125
  ·go_enter Tryz.func114, Tryz.ntmps114
   go_wp2
   go_ret
   exact ⟨ret_bool (by unfold plnB; rw [decide_eq_true h1, decide_eq_true h2]; rfl), rfl⟩
  ·go_enter Tryz.func114, Tryz.ntmps114
   go_wp2
   go_ret
   exact ⟨ret_bool (by unfold plnB; rw [decide_eq_false (p := c ≤ _) (by omega)]; simp), rfl⟩
 ·go_enter Tryz.func114, Tryz.ntmps114
  go_wp2
  go_ret
  exact ⟨ret_bool (by unfold plnB; rw [decide_eq_false (p := _ ≤ c) (by omega)]; simp), rfl⟩
theorem tooLong_any (s : ByteArray) (w : World) :
 Calls Tryz.prog 102 #[.string s] w fun e w' => e = .returned (.bool (decide (32768 < s.size))) ∧ w = w' := by
 go_enter Tryz.func102, Tryz.ntmps102
 go_wp2
 go_ret
 exact ⟨ret_bool (by simp; omega), rfl⟩
theorem indexByteLite_any (s : ByteArray) (c : Int) (w : World) :
 Calls Tryz.prog 126 #[.string s, .int .u8 c] w fun e w' => e = .returned (.int .i64 (Lib.indexByte s.data.toList c.toNat.toUInt8)) ∧ w = w' := by
 go_enter Tryz.func126, Tryz.ntmps126
 go_wp2
 rw [run_callFunc_extern Tryz.func141 (by kernel_rfl) (by kernel_rfl) (by kernel_rfl) (e := Extern.BytealgIndexByte.indexByte) (by kernel_rfl), Lib.run_indexByteString]
 simp only [Result.andThen]
 rw [Oper.upon_value]
 go_wp2
 go_ret
 exact ⟨rfl, rfl⟩
theorem indexByte_any (s : ByteArray) (c : Int) (w : World) :
 Calls Tryz.prog 106 #[.string s, .int .u8 c] w fun e w' => e = .returned (.int .i64 (Lib.indexByte s.data.toList c.toNat.toUInt8)) ∧ w = w' := by
 go_enter Tryz.func106, Tryz.ntmps106
 go_wp2_with (go_at_call 126; refine (indexByteLite_any _ _ _).mono ?_; rintro e w' ⟨rfl, rfl⟩)
 go_ret
 exact ⟨rfl, rfl⟩
def hexU (n : Nat) : UInt8 := if n < 10 then 48 + n.toUInt8 else 55 + n.toUInt8
def encB (c : UInt8) : List UInt8 := if plnB c.toNat then [c] else [37, hexU (c.toNat / 16), hexU (c.toNat % 16)]
def wordL (l : List UInt8) : List UInt8 := if l = [] then [126] else l.flatMap encB
theorem encB_plain {c : UInt8} (h : plnB c.toNat = true) : encB c = [c] := by unfold encB; rw [if_pos h]
theorem encB_esc {c : UInt8} (h : plnB c.toNat = false) : encB c = [37, hexU (c.toNat / 16), hexU (c.toNat % 16)] := by unfold encB; rw [if_neg (by rw [h]; simp)]
theorem encB_le (c : UInt8) : (encB c).length ≤ 3 := by unfold encB; split <;> simp
theorem flat_le (l : List UInt8) : (l.flatMap encB).length ≤ 3 * l.length := by
 induction l with
 | nil => simp
 | cons a t ih => have := encB_le a; simp only [List.flatMap_cons, List.length_append, List.length_cons]; omega
theorem wordL_le (l : List UInt8) : (wordL l).length ≤ 3 * l.length + 1 := by
 unfold wordL; split
 ·simp
 ·have := flat_le l; omega
theorem take_succ_data (s : ByteArray) (k : Nat) (h : k < s.size) : s.data.toList.take (k + 1) = s.data.toList.take k ++ [s[k]] := by
 rw [List.take_succ_eq_append_getElem (by simpa using h)]; rfl
theorem flat_succ (s : ByteArray) (k : Nat) (h : k < s.size) : (s.data.toList.take (k + 1)).flatMap encB = (s.data.toList.take k).flatMap encB ++ encB s[k] := by
 rw [take_succ_data s k h, List.flatMap_append]; simp
theorem take_all_data (s : ByteArray) : s.data.toList.take s.size = s.data.toList := List.take_of_length_le (by rw [← Lib.size_eq]; exact Nat.le_refl _)
theorem Tryz.info5 : (Tryz.prog.info? 5).map (fun i => (i.zero, i.size, i.bytes)) = some (some (.int .u8 0), 1, 1) := by kernel_rfl
theorem cells_of_own {w : World} {base e : Nat} {v : Value} {l : List UInt8} (h : w.ownsRow base e 1 v l.length (Lib.byteCells l)) :
 (v = .slice none 0 0 ∧ l = []) ∨ ∃ g cap, v = .slice (some ⟨g, 0, none⟩) l.length cap ∧ base ≤ g ∧ g < w.heap.size ∧ ∀ j (hj : j < l.length), w.cell? ⟨g, j, none⟩ = some (.int .u8 (l[j].toNat : Int)) := by
 obtain ⟨_, ⟨rfl, h0⟩ | ⟨g, cap, cur, rfl, hb, hg, hle, _, hsz, htk⟩⟩ := h
 ·exact .inl ⟨rfl, List.eq_nil_of_length_eq_zero h0⟩
 ·refine .inr ⟨g, cap, rfl, hb, (Array.getElem?_eq_some_iff.1 hg).1, fun j hj => ?_⟩
  rw [cell_of_row w g j cur e _ hg]
  have h1 : (cur.toList.take (l.length * 1))[j]? = some (.int .u8 (l[j].toNat : Int)) := by rw [htk]; simp [Lib.byteCells, List.getElem?_eq_getElem hj]
  rw [List.getElem?_take, if_pos (by omega)] at h1
  simpa using h1
theorem run_string_own {w : World} {base e : Nat} {v : Value} {l : List UInt8} (h : w.ownsRow base e 1 v l.length (Lib.byteCells l)) :
 (convert 22 9 v).run Tryz.prog w = .ok (.string ⟨l.toArray⟩) w := by
 rcases cells_of_own h with ⟨rfl, rfl⟩ | ⟨g, cap, rfl, _, _, hc⟩
 ·rw [run_convert_bytes_string w 22 9 5 none 0 0 Tryz.underlying22 Tryz.underlying5 Tryz.underlying9]
  kernel_rfl
 ·exact run_convert_bytes_back w 22 9 5 _ cap l Tryz.underlying22 Tryz.underlying5 Tryz.underlying9 (fun j hj => by rw [Addr.add_mid, Nat.zero_add]; exact hc j hj)
def AppRes (base : Nat) (w : World) (l : List UInt8) (e : Ending) (w' : World) : Prop := ∃ v, e = .returned v ∧ Hid (w'.ownsRow base 5 1 v l.length (Lib.byteCells l)) ∧ Below base w w'
theorem hex_index (n : Nat) (h : n < 16) (w : World) : (Instr.index 9 (.string ⟨#[48, 49, 50, 51, 52, 53, 54, 55, 56, 57, 65, 66, 67, 68, 69, 70]⟩) (.int .u8 (n : Int))).run Tryz.prog w = .ok (.int .u8 ((hexU n).toNat : Int)) w := by
 rcases (by omega : n = 0 ∨ n = 1 ∨ n = 2 ∨ n = 3 ∨ n = 4 ∨ n = 5 ∨ n = 6 ∨ n = 7 ∨ n = 8 ∨ n = 9 ∨ n = 10 ∨ n = 11 ∨ n = 12 ∨ n = 13 ∨ n = 14 ∨ n = 15) with rfl | rfl | rfl | rfl | rfl | rfl | rfl | rfl | rfl | rfl | rfl | rfl | rfl | rfl | rfl | rfl <;> kernel_rfl
theorem cells_newD (w : World) (L : List Value) (t : TypeId) : ∀ j u, L[j]? = some u → ((w.alloc (.cells L.toArray t)).drew).cell? ((⟨w.heap.size, 0, none⟩ : Addr).add j) = some u := by
 intro j u hj
 have h : ((w.alloc (.cells L.toArray t)).drew).heap[w.heap.size]? = some (.cells L.toArray t (0, 0)) := heap_alloc_new w _
 rw [Addr.add_mid, Nat.zero_add, cell_of_row _ w.heap.size j _ t (0, 0) h]
 simpa using hj
theorem step_append_own {P : Program} {w : World} {ops : Array Oper} {o : Oper} {a : Act} {K : Act → World → Prop} {Q : Exit → Act → World → Prop} {E : Prop} (hgd : o.guard = none) (s x : Operand) (t : TypeId)
 (ho : o.op = .call { callee := .builtin .append, args := #[s, x], argTypes := #[t, t] })
 (base : Nat) (e : TypeId) (i : TypeInfo) (z : Value) (size bytes : Nat) (ht : P.underlying t = some (.slice e)) (hi : P.info? e = some i) (hz : i.zero = some z)
 (hsize : i.size = size) (hby : i.bytes = bytes) (hzs : z.cells.size = size) (hsz : 0 < size)
 (v : Value) (n : Nat) (xs : List Value) (hs : a.eval s = v) (hown : w.ownsRow base e size v n xs)
 (ad : Addr) (m c : Nat) (news : List Value) (hx : a.eval x = .slice (some ad) m c) (hl : news.length = m * size) (hnews : ∀ j u, news[j]? = some u → w.cell? (ad.add j) = some u) (h1 : ∀ u ∈ news, u.oneCell' = true)
 (h63 : n + m ≤ maxLen) (hbytes : (n + m) * bytes ≤ 140737488355328) (hbase : base ≤ w.heap.size)
 (h : ∀ v' w', w'.ownsRow base e size v' (n + m) (xs ++ news) → w.grownBy w' v.ownBlock → (v' = .slice none 0 0 ↔ v = .slice none 0 0 ∧ m = 0) → K (a.put o.dst v') w') :
 if Region.wanted o (yielded ops a.tmps) = true then Oper.wp P o a w K Q else E := by
 have hw : Region.wanted o (yielded ops a.tmps) = true := by simp [Region.wanted, hgd]
 rw [if_pos hw]
 exact wp_append_own w s x t ho base e i z size bytes ht hi hz hsize hby hzs hsz v n xs hs hown ad m c news hx hl hnews h1 h63 hbytes hbase h
theorem and15F : ∀ c : Fin 256, bits .and .u8 (c.val : Int) 15 = (c.val : Int) % 16 := by decide +kernel
theorem and15 (c : UInt8) : bits .and .u8 (c.toNat : Int) 15 = (c.toNat : Int) % 16 := and15F ⟨c.toNat, UInt8.toNat_lt _⟩
theorem own_base {w : World} {base e size : Nat} {v : Value} {n : Nat} {xs : List Value} (h : w.ownsRow base e size v n xs) : ∀ k, v.ownBlock = some k → base ≤ k := fun k hk => (h.lt k hk).1
theorem appendWord_any (base : Nat) (v : Value) (xs : List UInt8) (s : ByteArray) (w : World) (hown : w.ownsRow base 5 1 v xs.length (Lib.byteCells xs)) (hbase : base ≤ w.heap.size) (hlen : xs.length + 3 * s.size + 1 ≤ 1099511627776) :
 Calls Tryz.prog 77 #[v, .string s] w (AppRes base w (xs ++ wordL s.data.toList)) := by
 have HOWN := zh hown; clear hown
 obtain ⟨i0, hi0, hz0, hz1, hz2⟩ := info_parts Tryz.info5
 have HI0 := zh hi0; have HZ0 := zh hz0; have HZ1 := zh hz1; have HZ2 := zh hz2
 clear hi0 hz0 hz1 hz2
 by_cases h0 : s.size = 0
 ·have e0 : s.toList = [] := by rw [Lib.toList_data]; exact List.eq_nil_of_length_eq_zero (by rw [← Lib.size_eq]; exact h0)
  have HW := zh (show wordL s.data.toList = [126] by rw [← Lib.toList_data, e0]; rfl)
  generalize wordL s.data.toList = wl at *
  clear h0
  go_enter Tryz.func77, Tryz.ntmps77
  go_wp2_with (at_builtin; (refine Lib.wpList_append_own_string _ rfl (.tmp 9) (.const (.string ⟨#[126]⟩)) 22 9 rfl base 5 i0 Tryz.underlying22 Tryz.underlying9 HI0.out HZ0.out HZ1.out HZ2.out _ _ _ rfl HOWN.out ⟨#[126]⟩ rfl (by unfold maxLen; show xs.length + 1 ≤ _; omega) (by show xs.length + 1 ≤ _; omega) hbase ?_; intro v' w1 hown1 hg1 _; have HO1 := zh hown1; clear hown1))
  go_ret
  refine ⟨v', rfl, ?_, (Below.refl _ _).grown hg1 hbase (own_base HOWN.out)⟩
  rw [HW.out]
  have := HO1.out
  rw [show (⟨#[126]⟩ : ByteArray).size = 1 from rfl] at this
  show World.ownsRow _ _ _ _ _ _ _
  simpa [Lib.byteCells_append, Lib.strCells_eq] using this
 ·have e0 : s.toList.isEmpty = false := by
   rw [Lib.toList_data, List.isEmpty_eq_false_iff]
   intro h; rw [Lib.size_eq, h] at h0; simp at h0
  have HW := zh (show wordL s.data.toList = (s.data.toList.take s.size).flatMap encB by
   unfold wordL; rw [take_all_data, if_neg (by intro h; rw [Lib.size_eq, h] at h0; simp at h0)])
  generalize wordL s.data.toList = wl at *
  clear h0
  go_enter Tryz.func77, Tryz.ntmps77
  go_wp2_with fail
  go_loopw [0, 13] (fun b i wr => ∃ k : Nat, k ≤ s.size ∧ i = .int .i64 k ∧ Hid (wr.ownsRow base 5 1 b (xs ++ (s.data.toList.take k).flatMap encB).length (Lib.byteCells (xs ++ (s.data.toList.take k).flatMap encB))) ∧ Below base w wr) (fun _ i _ => s.size - (intOf i).toNat)
  case atStart => exact ⟨0, by omega, rfl, by show World.ownsRow _ _ _ _ _ _ _; simpa using HOWN.out, Below.refl _ _⟩
  case round =>
   obtain ⟨k, hk, rfl, hown, hbe⟩ := hrel
   by_cases hlt : k < s.size
   ·have HS := zh (flat_succ s k hlt)
    have hle := flat_le (s.data.toList.take k)
    have hle2 : (s.data.toList.take k).length ≤ k := List.length_take_le _ _
    have hbs := Nat.le_trans hbase hbe.size
    generalize (s.data.toList.take k).flatMap encB = fl at *
    clear HOWN
    cases hp : plnB (s[k].toNat)
    ·have HK := zh (encB_esc hp)
     have HP := zh hp; clear hp
     have hc256 : s[k].toNat < 256 := UInt8.toNat_lt _
     have hx1 := hex_index (s[k].toNat / 16) (by omega)
     have hx2 := hex_index (s[k].toNat % 16) (by omega)
     rw [show ((s[k].toNat / 16 : Nat) : Int) = (s[k].toNat : Int) / 16 by omega] at hx1
     rw [show ((s[k].toNat % 16 : Nat) : Int) = (s[k].toNat : Int) % 16 by omega] at hx2
     have hand := and15 s[k]
     go_wp2_with (go_at_call 114; refine (plain_any _ _).mono ?_; rintro e w' ⟨rfl, rfl⟩; rw [HP.out])
     go_region_held3 (fun _ => True) (trivial) ((refine step_append_own rfl (.tmp 25) (.tmp 32) 22 (by rfl) base 5 i0 (.int .u8 0) 1 1 Tryz.underlying22 HI0.out HZ0.out HZ1.out HZ2.out rfl (by decide) _ _ _ (by rfl) (by exact (hown.out.alloc _).drew) ⟨wr.heap.size, 0, none⟩ 3 3 (Lib.byteCells [37, hexU (s[k].toNat / 16), hexU (s[k].toNat % 16)]) (by rfl) (by rfl) (by exact cells_newD _ _ _) (Lib.byteCells_one _) (by unfold maxLen; simp only [List.length_append]; omega) (by simp only [List.length_append]; omega) (by simp; omega) ?_; intro v' w1 hown1 hg1 _; have HO1 := zh hown1; clear hown1))
     all_goals
      go_wp2
      go_roundw
      case rel =>
       refine ⟨k + 1, by omega, by go_num, ?_, ?_⟩
       ·rw [HS.out, HK.out]
        have := HO1.out
        show World.ownsRow _ _ _ _ _ _ _
        simpa [Lib.byteCells_append, Lib.byteCells, Nat.add_assoc] using this
       ·exact ((hbe.alloc hbs _).drew).grown hg1 (by simp; omega) (own_base hown.out)
      case measure => simp [intOf]; omega
    ·have HK := zh (encB_plain hp)
     have HP := zh hp; clear hp
     go_wp2_with (first
      | (go_at_call 114; refine (plain_any _ _).mono ?_; rintro e w' ⟨rfl, rfl⟩; rw [HP.out])
      | (at_builtin; refine wpList_append_own _ rfl (.tmp 21) (.tmp 23) 22 rfl base 5 i0 (.int .u8 0) 1 1 Tryz.underlying22 HI0.out HZ0.out HZ1.out HZ2.out rfl (by decide) _ _ _ rfl (hown.out.alloc _) ⟨wr.heap.size, 0, none⟩ 1 1 [.int .u8 (s[k].toNat : Int)] rfl rfl (cell_one_new _ _ _) (by intro u hu; simp at hu; subst hu; rfl) (by unfold maxLen; simp only [List.length_append]; omega) (by simp only [List.length_append]; omega) (by simp; omega) ?_; intro v' w1 hown1 hg1 _; have HO1 := zh hown1; clear hown1))
     go_roundw
     case rel =>
      refine ⟨k + 1, by omega, by go_num, ?_, ?_⟩
      ·rw [HS.out, HK.out]
       have := HO1.out
       show World.ownsRow _ _ _ _ _ _ _
       simpa [Lib.byteCells_append, Lib.byteCells, Nat.add_assoc] using this
      ·exact (hbe.alloc hbs _).grown hg1 (by simp; omega) (own_base hown.out)
     case measure => simp [intOf]; omega
   ·obtain rfl : k = s.size := by omega
    go_wp2
    go_ret
    exact ⟨u0, rfl, by rw [HW.out]; exact hown, hbe⟩
def hexD : List UInt8 := [48, 49, 50, 51, 52, 53, 54, 55, 56, 57, 65, 66, 67, 68, 69, 70]
def hexV (c : UInt8) : Nat := if 48 ≤ c.toNat ∧ c.toNat ≤ 57 then c.toNat - 48 else if 65 ≤ c.toNat ∧ c.toNat ≤ 70 then c.toNat - 55 else 16
theorem hexV_le (c : UInt8) : hexV c ≤ 16 := by unfold hexV; split <;> (try split) <;> omega
theorem index_hexF : ∀ c : Fin 256, Lib.indexByte hexD (UInt8.ofNat c.val) = if hexV (UInt8.ofNat c.val) = 16 then -1 else (hexV (UInt8.ofNat c.val) : Int) := by decide +kernel
theorem index_hex (c : UInt8) : Lib.indexByte hexD c = if hexV c = 16 then -1 else (hexV c : Int) := by
 have h := index_hexF ⟨c.toNat, UInt8.toNat_lt _⟩
 simpa using h
def escV (a b : UInt8) : Option UInt8 :=
 if hexV a = 16 ∨ hexV b = 16 then none else if plnB ((16 * hexV a + hexV b : Nat) : Int) then none else some (UInt8.ofNat (16 * hexV a + hexV b))
def escD : List UInt8 → Option UInt8
 | a :: b :: _ => escV a b
 | _ => none
def unwL : List UInt8 → Option (List UInt8)
 | [] => some []
 | [c] => if plnB c.toNat then some [c] else none
 | [c, d] => if plnB c.toNat then (unwL [d]).map (c :: ·) else none
 | c :: a :: b :: r =>
   if plnB c.toNat then (unwL (a :: b :: r)).map (c :: ·)
   else if c = 37 then (match escV a b with | some v => (unwL r).map (v :: ·) | none => none) else none
def unword (l : List UInt8) : Option (List UInt8) := if l = [] then none else if l = [126] then some [] else unwL l
theorem pln_37 : plnB 37 = false := by decide
theorem unwL_plain {c : UInt8} (h : plnB c.toNat = true) (t : List UInt8) : unwL (c :: t) = (unwL t).map (c :: ·) := by
 match t with
 | [] => simp [unwL, h]
 | [d] => simp [unwL, h]
 | a :: b :: r => simp [unwL, h]
theorem unwL_esc (t : List UInt8) : unwL (37 :: t) = match escD t with | some v => (unwL (t.drop 2)).map (v :: ·) | none => none := by
 match t with
 | [] => simp [unwL, escD, pln_37]
 | [d] => simp [unwL, escD, pln_37]
 | a :: b :: r => simp [unwL, escD, pln_37]
theorem unwL_other {c : UInt8} (h : plnB c.toNat = false) (h2 : c ≠ 37) (t : List UInt8) : unwL (c :: t) = none := by
 match t with
 | [] => simp [unwL, h]
 | [d] => simp [unwL, h]
 | a :: b :: r => simp [unwL, h, h2]
theorem hexD_data : (⟨#[48, 49, 50, 51, 52, 53, 54, 55, 56, 57, 65, 66, 67, 68, 69, 70]⟩ : ByteArray).data.toList = hexD := rfl
theorem byteOf2 (c : UInt8) : ((c.toNat : Int)).toNat.toUInt8 = c := by simp
theorem escD_two {s : ByteArray} (h : 2 ≤ s.size) : escD s.data.toList = escV s[0] s[1] := by
 obtain ⟨⟨l⟩⟩ := s
 match l, h with
 | a :: b :: t, _ => rfl
theorem escD_short {s : ByteArray} (h : s.size < 2) : escD s.data.toList = none := by
 obtain ⟨⟨l⟩⟩ := s
 match l, h with
 | [], _ => rfl
 | [a], _ => rfl
def EscRes (r : Option UInt8) (w : World) (e : Ending) (w' : World) : Prop :=
 (match r with | some v => e = .returned (.tuple #[.int .u8 (v.toNat : Int), .bool true]) | none => e = .returned (.tuple #[.int .u8 0, .bool false])) ∧ w = w'
theorem or_hexF : ∀ a b : Fin 16, (bits .or .i64 ((a.val : Int) * 16) (b.val : Int)) = ((16 * a.val + b.val : Nat) : Int) := by decide +kernel
theorem or_hex (a b : Nat) (ha : a < 16) (hb : b < 16) : bits .or .i64 ((a : Int) * 16) (b : Int) = ((16 * a + b : Nat) : Int) := or_hexF ⟨a, ha⟩ ⟨b, hb⟩
theorem hexIdx_none {c : UInt8} (h : hexV c = 16) (w : World) :
 Calls Tryz.prog 106 #[.string ⟨#[48, 49, 50, 51, 52, 53, 54, 55, 56, 57, 65, 66, 67, 68, 69, 70]⟩, .int .u8 (c.toNat : Int)] w fun e w' => e = .returned (.int .i64 (-1)) ∧ w = w' :=
 (indexByte_any _ _ w).mono fun e w' ⟨he, hw⟩ => ⟨by rw [he, byteOf2, hexD_data, index_hex, if_pos h], hw⟩
theorem hexIdx_some {c : UInt8} {x : Nat} (h : hexV c = x) (hx : x ≠ 16) (w : World) :
 Calls Tryz.prog 106 #[.string ⟨#[48, 49, 50, 51, 52, 53, 54, 55, 56, 57, 65, 66, 67, 68, 69, 70]⟩, .int .u8 (c.toNat : Int)] w fun e w' => e = .returned (.int .i64 (x : Int)) ∧ w = w' :=
 (indexByte_any _ _ w).mono fun e w' ⟨he, hw⟩ => ⟨by rw [he, byteOf2, hexD_data, index_hex, if_neg (by rw [h]; exact hx), h], hw⟩
theorem escaped_any (s : ByteArray) (w : World) (hs : s.size ≤ 1099511627776) :
 Calls Tryz.prog 138 #[.string s] w (EscRes (escD s.data.toList) w) := by
 by_cases h2 : s.size < 2
 ·have HR := zh (escD_short h2)
  generalize escD s.data.toList = r at *
  go_enter Tryz.func138, Tryz.ntmps138
  go_wp2_with fail
  go_ret2
  exact ⟨by rw [HR.out]; rfl, rfl⟩
 ·have HR := zh (escD_two (s := s) (by omega))
  generalize escD s.data.toList = r at *
  have h0 : 0 < s.size := by omega
  have h1 : 1 < s.size := by omega
  have hl0 := hexV_le s[0]
  have hl1 := hexV_le s[1]
  have HV := zh (show escV s[0] s[1] = if hexV s[0] = 16 ∨ hexV s[1] = 16 then none else if plnB ((16 * hexV s[0] + hexV s[1] : Nat) : Int) then none else some (UInt8.ofNat (16 * hexV s[0] + hexV s[1])) from rfl)
  obtain ⟨x, hx⟩ : ∃ x, hexV s[0] = x := ⟨_, rfl⟩
  obtain ⟨y, hy⟩ : ∃ y, hexV s[1] = y := ⟨_, rfl⟩
  rw [hx, hy] at HV
  rw [hx] at hl0; rw [hy] at hl1
  have HX := zh hx; have HY := zh hy; clear hx hy
  by_cases hx : x = 16
  ·have HC1 := fun w => zh (hexIdx_none (HX.out.trans hx) w)
   have HRN : Hid (r = none) := by show _ = _; rw [HR.out, HV.out, if_pos (.inl hx)]
   clear HR HV
   by_cases hy : y = 16
   ·have HC2 := fun w => zh (hexIdx_none (HY.out.trans hy) w)
    clear hx hy
    go_enter Tryz.func138, Tryz.ntmps138
    go_wp2_with fail
    refine (HC1 _).out.mono ?_; rintro e w' ⟨rfl, rfl⟩
    go_wp2_with fail
    refine (HC2 _).out.mono ?_; rintro e w' ⟨rfl, rfl⟩
    go_wp2_with fail
    go_ret2
    exact ⟨by rw [HRN.out]; rfl, rfl⟩
   ·have HC2 := fun w => zh (hexIdx_some HY.out hy w)
    clear hx hy
    go_enter Tryz.func138, Tryz.ntmps138
    go_wp2_with fail
    refine (HC1 _).out.mono ?_; rintro e w' ⟨rfl, rfl⟩
    go_wp2_with fail
    refine (HC2 _).out.mono ?_; rintro e w' ⟨rfl, rfl⟩
    go_wp2_with fail
    go_ret2
    exact ⟨by rw [HRN.out]; rfl, rfl⟩
  ·have HC1 := fun w => zh (hexIdx_some HX.out hx w)
   by_cases hy : y = 16
   ·have HC2 := fun w => zh (hexIdx_none (HY.out.trans hy) w)
    have HRN : Hid (r = none) := by show _ = _; rw [HR.out, HV.out, if_pos (.inr hy)]
    clear HR HV hx hy
    go_enter Tryz.func138, Tryz.ntmps138
    go_wp2_with fail
    refine (HC1 _).out.mono ?_; rintro e w' ⟨rfl, rfl⟩
    go_wp2_with fail
    refine (HC2 _).out.mono ?_; rintro e w' ⟨rfl, rfl⟩
    go_wp2_with fail
    go_ret2
    exact ⟨by rw [HRN.out]; rfl, rfl⟩
   ·have HC2 := fun w => zh (hexIdx_some HY.out hy w)
    have ho := or_hex x y (by omega) (by omega)
    have hlt : 16 * x + y < 256 := by omega
    have HV2 : Hid (r = if plnB ((16 * x + y : Nat) : Int) then none else some (UInt8.ofNat (16 * x + y))) := by
     show _ = _; rw [HR.out, HV.out, if_neg (fun h => h.elim hx hy)]
    clear HR HV hx hy
    have HO := zh ho; clear ho
    go_enter Tryz.func138, Tryz.ntmps138
    go_wp2_with fail
    refine (HC1 _).out.mono ?_; rintro e w' ⟨rfl, rfl⟩
    go_wp2_with fail
    refine (HC2 _).out.mono ?_; rintro e w' ⟨rfl, rfl⟩
    have ho := HO.out
    go_wp2_with fail
    have hcast : ((16 * x + y : Nat) : Int) = 16 * (x : Int) + (y : Int) := by omega
    rw [hcast] at HV2
    clear hcast ho HO
    cases hp : plnB (16 * (x : Int) + (y : Int))
    ·have HP := zh hp; clear hp
     refine (plain_any _ _).mono ?_; rintro e w' ⟨rfl, rfl⟩
     rw [HP.out]
     go_wp2_with fail
     go_ret2
     have hv : ((UInt8.ofNat (16 * x + y)).toNat : Int) = 16 * (x : Int) + (y : Int) := by
      rw [UInt8.toNat_ofNat_of_lt' (by exact hlt)]; omega
     exact ⟨by rw [HV2.out, HP.out]; show _ = Ending.returned (.tuple #[.int .u8 ((UInt8.ofNat (16 * x + y)).toNat : Int), .bool true]); rw [hv]; rfl, rfl⟩
    ·have HP := zh hp; clear hp
     refine (plain_any _ _).mono ?_; rintro e w' ⟨rfl, rfl⟩
     rw [HP.out]
     go_wp2_with fail
     go_ret2
     exact ⟨by rw [HV2.out, HP.out]; rfl, rfl⟩
def UnwRes (r : Option (List UInt8)) (w : World) (e : Ending) (w' : World) : Prop :=
 (match r with | some l => e = .returned (.tuple #[.string ⟨l.toArray⟩, .bool true]) | none => e = .returned (.tuple #[.string ⟨#[]⟩, .bool false])) ∧ Below w.heap.size w w'
theorem drop_cons_data (s : ByteArray) (k : Nat) (h : k < s.size) : s.data.toList.drop k = s[k] :: s.data.toList.drop (k + 1) := by
 rw [List.drop_eq_getElem_cons (by simpa using h)]; rfl
theorem unw_step_plain {s : ByteArray} {k : Nat} {acc : List UInt8} {r : Option (List UInt8)} (hk : k < s.size) (h : r = (unwL (s.data.toList.drop k)).map (acc ++ ·)) (hp : plnB (s[k].toNat) = true) :
 r = (unwL (s.data.toList.drop (k + 1))).map ((acc ++ [s[k]]) ++ ·) := by
 rw [h, drop_cons_data s k hk, unwL_plain hp]
 cases unwL (s.data.toList.drop (k + 1)) <;> simp
theorem unw_step_other {s : ByteArray} {k : Nat} {acc : List UInt8} {r : Option (List UInt8)} (hk : k < s.size) (h : r = (unwL (s.data.toList.drop k)).map (acc ++ ·)) (hp : plnB (s[k].toNat) = false) (h37 : s[k] ≠ 37) : r = none := by
 rw [h, drop_cons_data s k hk, unwL_other hp h37]; rfl
theorem unw_step_bad {s : ByteArray} {k : Nat} {acc : List UInt8} {r : Option (List UInt8)} (hk : k < s.size) (h : r = (unwL (s.data.toList.drop k)).map (acc ++ ·)) (h37 : s[k] = 37) (he : escD (s.data.toList.drop (k + 1)) = none) : r = none := by
 rw [h, drop_cons_data s k hk, h37, unwL_esc, he]; rfl
theorem unw_step_esc {s : ByteArray} {k : Nat} {acc : List UInt8} {r : Option (List UInt8)} {v : UInt8} (hk : k < s.size) (h : r = (unwL (s.data.toList.drop k)).map (acc ++ ·)) (h37 : s[k] = 37) (he : escD (s.data.toList.drop (k + 1)) = some v) :
 k + 3 ≤ s.size ∧ r = (unwL (s.data.toList.drop (k + 3))).map ((acc ++ [v]) ++ ·) := by
 constructor
 ·have hl : 2 ≤ (s.data.toList.drop (k + 1)).length := by
   match s.data.toList.drop (k + 1), he with
   | [], he => cases he
   | [_], he => cases he
   | _ :: _ :: _, _ => simp
  rw [List.length_drop, ← Lib.size_eq] at hl
  omega
 ·rw [h, drop_cons_data s k hk, h37, unwL_esc, he]
  simp only [List.drop_drop]
  cases unwL (s.data.toList.drop (k + 3)) <;> simp
theorem unw_end {s : ByteArray} {acc : List UInt8} {r : Option (List UInt8)} (h : r = (unwL (s.data.toList.drop s.size)).map (acc ++ ·)) : r = some acc := by
 rw [h, List.drop_of_length_le (by rw [← Lib.size_eq]; exact Nat.le_refl _)]; simp [unwL]
theorem drop_data (s : ByteArray) (a : Nat) : (s.extract a s.size).data.toList = s.data.toList.drop a := by
 rw [Lib.extract_data, List.take_of_length_le (by rw [List.length_drop, ← Lib.size_eq]; exact Nat.le_refl _)]
theorem escaped_none {s : ByteArray} {a : Nat} (h : escD (s.data.toList.drop a) = none) (hs : s.size ≤ 1099511627776) (w : World) :
 Calls Tryz.prog 138 #[.string (s.extract a s.size)] w fun e w' => e = .returned (.tuple #[.int .u8 0, .bool false]) ∧ w = w' :=
 (escaped_any (s.extract a s.size) w (by rw [ByteArray.size_extract]; omega)).mono fun e w' hr => by
  unfold EscRes at hr
  rw [drop_data, h] at hr
  exact hr
theorem escaped_some {s : ByteArray} {a : Nat} {v : UInt8} (h : escD (s.data.toList.drop a) = some v) (hs : s.size ≤ 1099511627776) (w : World) :
 Calls Tryz.prog 138 #[.string (s.extract a s.size)] w fun e w' => e = .returned (.tuple #[.int .u8 (v.toNat : Int), .bool true]) ∧ w = w' :=
 (escaped_any (s.extract a s.size) w (by rw [ByteArray.size_extract]; omega)).mono fun e w' hr => by
  unfold EscRes at hr
  rw [drop_data, h] at hr
  exact hr
theorem data_nil_of {s : ByteArray} (h : s.size = 0) : s.data.toList = [] := List.eq_nil_of_length_eq_zero (by rw [← Lib.size_eq]; exact h)
theorem data_ne_of {s : ByteArray} (h : s.size ≠ 0) : s.data.toList ≠ [] := fun e => h (by rw [Lib.size_eq, e]; rfl)
theorem Unword_any (s : ByteArray) (w : World) (hs : s.size ≤ 1099511627776) :
 Calls Tryz.prog 122 #[.string s] w (UnwRes (unword s.data.toList) w) := by
 by_cases h0 : s.size = 0
 ·have HR := zh (show unword s.data.toList = none by rw [data_nil_of h0]; rfl)
  have e0 : s.toList = [] := by rw [Lib.toList_data]; exact data_nil_of h0
  generalize unword s.data.toList = r at *
  clear h0
  go_enter Tryz.func122, Tryz.ntmps122
  go_wp2_with fail
  go_ret2
  exact ⟨by rw [HR.out]; rfl, Below.refl _ _⟩
 ·have hne := data_ne_of h0
  have e0 : s.toList.isEmpty = false := by
   rw [Lib.toList_data, List.isEmpty_eq_false_iff]; exact hne
  by_cases ht : s.data.toList = [126]
  ·have HR := zh (show unword s.data.toList = some [] by rw [ht]; rfl)
   have e1 : (s.toList == [126]) = true := by rw [Lib.toList_data, ht]; rfl
   generalize unword s.data.toList = r at *
   clear h0 hne ht
   go_enter Tryz.func122, Tryz.ntmps122
   go_wp2_with fail
   go_ret2
   exact ⟨by rw [HR.out]; rfl, Below.refl _ _⟩
  ·have HR := zh (show unword s.data.toList = (unwL (s.data.toList.drop 0)).map ([] ++ ·) by
    unfold unword; rw [if_neg hne, if_neg ht, List.drop_zero]; simp)
   have e1 : (s.toList == [126]) = false := by rw [Lib.toList_data, beq_eq_false_iff_ne]; exact ht
   generalize unword s.data.toList = r at *
   obtain ⟨i0, hi0, hz0, hz1, hz2⟩ := info_parts Tryz.info5
   have HI0 := zh hi0; have HZ0 := zh hz0; have HZ1 := zh hz1; have HZ2 := zh hz2
   clear hi0 hz0 hz1 hz2 h0 hne ht
   go_enter Tryz.func122, Tryz.ntmps122
   go_wp2_with (at_make; refine wpList_make_own _ rfl _ _ 22 rfl w.heap.size 5 i0 (.int .u8 0) 1 Tryz.underlying22 HI0.out HZ0.out HZ1.out _ _ _ s.size rfl rfl (by omega) (by rw [HZ2.out]; omega) (by unfold maxLen; omega) (Nat.le_refl _) ?_; intro w0 hown0 hg0; have HO0 := zh hown0; clear hown0)
   have hb0 : Below w.heap.size w w0 := (Below.refl _ _).grown hg0 (Nat.le_refl _) (by intro k hk; cases hk)
   clear hg0
   go_loopw [4, 5] (fun v i wr => ∃ (k : Nat) (acc : List UInt8), k ≤ s.size ∧ i = .int .i64 k ∧ acc.length ≤ k ∧ Hid (r = (unwL (s.data.toList.drop k)).map (acc ++ ·)) ∧ Hid (wr.ownsRow w.heap.size 5 1 v acc.length (Lib.byteCells acc)) ∧ Below w.heap.size w wr) (fun _ i _ => s.size - (intOf i).toNat)
   case atStart => exact ⟨0, [], by omega, rfl, by simp, HR.out, HO0.out, hb0⟩
   case round =>
    clear HR HO0 hb0
    obtain ⟨k, acc, hk, rfl, hal, HA, hown, hbe⟩ := hrel
    have hbs := hbe.size
    by_cases hlt : k < s.size
    ·by_cases h37 : s[k] = 37
     ·have b37 : ((s[k].toNat : Int) == 37) = true := by rw [h37]; rfl
      cases he : escD (s.data.toList.drop (k + 1))
      ·have HE := fun w => zh (escaped_none he hs w)
       have HN := zh (unw_step_bad hlt HA.out h37 he)
       clear he h37 HA
       go_wp2_with (go_at_call 138; refine (HE _).out.mono ?_; rintro e w' ⟨rfl, rfl⟩)
       go_ret2
       exact ⟨by rw [HN.out]; rfl, hbe⟩
      ·rename_i c
       have HE := fun w => zh (escaped_some he hs w)
       obtain ⟨h3, hn⟩ := unw_step_esc hlt HA.out h37 he
       have HN := zh hn
       clear he h37 HA hn
       go_wp2_with (first
        | (go_at_call 138; refine (HE _).out.mono ?_; rintro e w' ⟨rfl, rfl⟩)
        | (at_builtin; refine wpList_append_own _ rfl (.tmp 42) (.tmp 44) 22 rfl w.heap.size 5 i0 (.int .u8 0) 1 1 Tryz.underlying22 HI0.out HZ0.out HZ1.out HZ2.out rfl (by decide) _ _ _ rfl (hown.out.alloc _) ⟨wr.heap.size, 0, none⟩ 1 1 [.int .u8 (c.toNat : Int)] rfl rfl (cell_one_new _ _ _) (by intro u hu; simp at hu; subst hu; rfl) (by unfold maxLen; omega) (by omega) (by simp; omega) ?_; intro v' w1 hown1 hg1 _; have HO1 := zh hown1; clear hown1))
       go_roundw
       case rel =>
        refine ⟨k + 3, acc ++ [c], by omega, by go_num, by simp; omega, HN.out, ?_, (hbe.alloc hbs _).grown hg1 (by simp; omega) (own_base hown.out)⟩
        have := HO1.out
        show World.ownsRow _ _ _ _ _ _ _
        simpa [Lib.byteCells_append, Lib.byteCells, Nat.add_assoc] using this
       case measure => simp [intOf]; omega
     ·have b37 : ((s[k].toNat : Int) == 37) = false := by
       rw [beq_eq_false_iff_ne]; intro h; exact h37 (UInt8.toNat_inj.1 (by show s[k].toNat = 37; omega))
      cases hp : plnB (s[k].toNat)
      ·have HN := zh (unw_step_other hlt HA.out hp h37)
       have HP := zh hp; clear hp h37 HA
       go_wp2_with (go_at_call 114; refine (plain_any _ _).mono ?_; rintro e w' ⟨rfl, rfl⟩; rw [HP.out])
       go_ret2
       exact ⟨by rw [HN.out]; rfl, hbe⟩
      ·have HN := zh (unw_step_plain hlt HA.out hp)
       have HP := zh hp; clear hp h37 HA
       go_wp2_with (first
        | (go_at_call 114; refine (plain_any _ _).mono ?_; rintro e w' ⟨rfl, rfl⟩; rw [HP.out])
        | (at_builtin; refine wpList_append_own _ rfl (.tmp 42) (.tmp 44) 22 rfl w.heap.size 5 i0 (.int .u8 0) 1 1 Tryz.underlying22 HI0.out HZ0.out HZ1.out HZ2.out rfl (by decide) _ _ _ rfl (hown.out.alloc _) ⟨wr.heap.size, 0, none⟩ 1 1 [.int .u8 (s[k].toNat : Int)] rfl rfl (cell_one_new _ _ _) (by intro u hu; simp at hu; subst hu; rfl) (by unfold maxLen; omega) (by omega) (by simp; omega) ?_; intro v' w1 hown1 hg1 _; have HO1 := zh hown1; clear hown1))
       go_roundw
       case rel =>
        refine ⟨k + 1, acc ++ [s[k]], by omega, by go_num, by simp; omega, HN.out, ?_, (hbe.alloc hbs _).grown hg1 (by simp; omega) (own_base hown.out)⟩
        have := HO1.out
        show World.ownsRow _ _ _ _ _ _ _
        simpa [Lib.byteCells_append, Lib.byteCells, Nat.add_assoc] using this
       case measure => simp [intOf]; omega
    ·obtain rfl : k = s.size := by omega
     have HN := zh (unw_end HA.out)
     have hcv := run_string_own hown.out
     clear HA
     go_wp2_with fail
     go_ret2
     exact ⟨by rw [HN.out]; rfl, hbe⟩
theorem indexByteLite_anyS (s : ByteArray) (c : Int) (w : World) :
 Calls Tryz.prog 126 #[.string s, .int .u8 c] w fun e w' => e = .returned (.int .i64 (Lib.indexByte s.data.toList c.toNat.toUInt8)) ∧ w = w' := by
 go_enter Tryz.func126, Tryz.ntmps126
 go_wp2
 rw [run_callFunc_extern Tryz.func141 (by kernel_rfl) (by kernel_rfl) (by kernel_rfl) (e := Extern.BytealgIndexByte.indexByte) (by kernel_rfl), Lib.run_indexByteString]
 simp only [Result.andThen]
 rw [Oper.upon_value]
 go_wp2
 go_ret
 exact ⟨rfl, rfl⟩
def oneB (c : UInt8) : ByteArray := ⟨#[c]⟩
theorem oneB_size (c : UInt8) : (oneB c).size = 1 := rfl
theorem oneB_at (c : UInt8) (h : 0 < (oneB c).size) : (oneB c)[0] = c := rfl
theorem indexB_oneS (s : ByteArray) (c : UInt8) : Lib.indexB s (oneB c) = Lib.indexByte s.data.toList c := by
 show Lib.index s.data.toList [c] = _
 exact Lib.index_one _ _
theorem byte_backS (c : UInt8) : ((c.toNat : Int)).toNat.toUInt8 = c := by simp
theorem indexLite_anyS (s : ByteArray) (c : UInt8) (w : World) :
 Calls Tryz.prog 131 #[.string s, .string (oneB c)] w fun e w' => e = .returned (.int .i64 (Lib.indexB s (oneB c))) ∧ w = w' := by
 have hsz := oneB_size c
 have hat := oneB_at c
 rw [indexB_oneS]
 have hne : (oneB c).toList ≠ [] := by rw [Lib.toList_data]; simp [oneB]
 by_cases h : ((oneB c).toList == s.toList) = true
 ·have hl : s.data.toList = [c] := by rw [beq_iff_eq, Lib.toList_data, Lib.toList_data] at h; exact h.symm
  have HI : Hid (Lib.indexByte s.data.toList c = 0) := by show _ = _; rw [hl]; simp [Lib.indexByte]
  clear hl
  go_enter Tryz.func131, Tryz.ntmps131
  go_wp2_with fail
  go_ret
  exact ⟨by rw [HI.out]; rfl, rfl⟩
 ·have h : ((oneB c).toList == s.toList) = false := by simpa using h
  have HC := zh (fun w => indexByteLite_anyS s (c.toNat : Int) w)
  have HB := zh (byte_backS c)
  go_enter Tryz.func131, Tryz.ntmps131
  go_wp2_with fail
  refine (HC.out _).mono ?_
  rintro e w' ⟨rfl, rfl⟩
  rw [HB.out]
  go_wp2_with fail
  go_ret
  exact ⟨rfl, rfl⟩
theorem index_anyS (s : ByteArray) (c : UInt8) (w : World) :
 Calls Tryz.prog 129 #[.string s, .string (oneB c)] w fun e w' => e = .returned (.int .i64 (Lib.indexB s (oneB c))) ∧ w = w' := by
 go_enter Tryz.func129, Tryz.ntmps129
 go_wp2_with (go_at_call 131; refine (indexLite_anyS _ _ _).mono ?_; rintro e w' ⟨rfl, rfl⟩)
 go_ret
 exact ⟨rfl, rfl⟩
theorem countB_oneS (s : ByteArray) (c : UInt8) : Lib.countB s (oneB c) = Lib.countByte s.data.toList c := by
 show Lib.count s.data.toList [c] = _
 exact Lib.count_one _ _
theorem count_anyS (s : ByteArray) (c : UInt8) (w : World) :
 Calls Tryz.prog 128 #[.string s, .string (oneB c)] w fun e w' => e = .returned (.int .i64 (Lib.countB s (oneB c) : Int)) ∧ w = w' := by
 have hsz := oneB_size c
 have hat := oneB_at c
 rw [countB_oneS]
 have HB := zh (byte_backS c)
 go_enter Tryz.func128, Tryz.ntmps128
 go_wp2_with fail
 rw [run_callFunc_extern Tryz.func144 (by kernel_rfl) (by kernel_rfl) (by kernel_rfl) (e := Extern.BytealgCount.count) (by kernel_rfl), Lib.run_countString, HB.out]
 simp only [Result.andThen]
 rw [Oper.upon_value]
 go_wp2_with fail
 go_ret
 exact ⟨rfl, rfl⟩
theorem infoStrS : (Tryz.prog.info? 9).map (fun i => (i.zero, i.size, i.bytes)) = some (some (.string ByteArray.empty), 1, 16) := by kernel_rfl
theorem makeS (n : Nat) (h : n ≤ 100000000) (w : World) : (Instr.makeSlice 27 (.int .i64 ((n : Int) + 1)) (.int .i64 ((n : Int) + 1))).run Tryz.prog w = .ok (.slice (some ⟨w.heap.size, 0, none⟩) (n + 1) (n + 1)) (w.alloc (.cells (Lib.cellsOf [] (n + 1)) 9)) := by
 have h1 := run_make_row' (P := Tryz.prog) 27 9 (.string ByteArray.empty) 16 Tryz.underlying27 infoStrS rfl .i64 .i64 (n + 1) (by omega) (by omega) w
 rw [← Lib.cellsOf_nil] at h1
 exact h1
theorem splitB_missS (s : ByteArray) (c : UInt8) (h : Lib.indexB s (oneB c) = -1) (m : Nat) : Lib.splitB (oneB c) 0 m s = [s] := Lib.splitB_miss _ _ _ _ h
theorem genSplit_anyS (s : ByteArray) (c : UInt8) (w : World) (hs : s.size ≤ 10000000) :
 Calls Tryz.prog 108 #[.string s, .string (oneB c), .int .i64 0, .int .i64 (-1)] w fun e w' => e = .returned (.slice (some ⟨w.heap.size, 0, none⟩) (Lib.countB s (oneB c) + 1) (Lib.countB s (oneB c) + 1)) ∧
  w' = w.alloc (.cells ((Lib.splitB (oneB c) 0 (Lib.countB s (oneB c)) s).map Value.string).toArray 9) := by
 have hsz := oneB_size c
 have hne : (oneB c).toList ≠ [] := by rw [Lib.toList_data]; simp [oneB]
 have hn1 : ((oneB c).toList == []) = false := by simpa using hne
 have hn2 : (oneB c).toList.isEmpty = false := by simpa using hne
 have hle := Lib.countB_le (oneB c) (by rw [hsz]; exact Nat.le_refl _) s.size s (Nat.le_refl _)
 have hall := Lib.splitB_all (oneB c) (by rw [hsz]; exact Nat.le_refl _) 0 _ s rfl
 have HC := zh (fun w => count_anyS s c w)
 have HIX := zh (fun r w => index_anyS r c w)
 obtain ⟨N, hN⟩ : ∃ N, Lib.countB s (oneB c) = N := ⟨_, rfl⟩
 rw [hN] at hle hall HC ⊢
 obtain ⟨ps, hps⟩ : ∃ ps, Lib.splitB (oneB c) 0 N s = ps := ⟨_, rfl⟩
 rw [hps] at hall ⊢
 have HALL := zh hall; have HPS := zh hps
 have hmin : min ((N : Int) + 1) ((s.size : Int) + 1) = (N : Int) + 1 := Int.min_eq_left (by omega)
 have hmk := makeS N (by omega)
 have q1 : (N : Int) ≤ 10000000 := by omega
 clear hN hall hps
 go_enter Tryz.func108, Tryz.ntmps108
 go_wp2_with fail
 refine (HC.out _).mono ?_
 rintro e w' ⟨rfl, rfl⟩
 go_wp2_with fail
 clear hmk hmin HC
 go_loopw [0, 10] (fun sv iv wr => ∃ (done : List ByteArray) (rest : ByteArray), sv = .string rest ∧ iv = .int .i64 (done.length : Int) ∧ done.length ≤ N ∧ rest.size ≤ s.size ∧ Hid (done ++ Lib.splitB (oneB c) 0 (N - done.length) rest = ps) ∧ wr = w.alloc (.cells (Lib.cellsOf done (N + 1)) 9)) (fun _ iv _ => N - (intOf iv).toNat)
 case atStart => exact ⟨[], s, rfl, rfl, Nat.zero_le _, Nat.le_refl _, HPS.out, rfl⟩
 case round =>
  obtain ⟨done, rest, rfl, rfl, hd, hrs, HS, rfl⟩ := hrel
  have hnext : (Lib.cellsOf done (N + 1))[done.length]? = some (.string ByteArray.empty) := Lib.cellsOf_next (by omega)
  have hcz := Lib.cellsOf_size (done := done) (N := N + 1) (by omega)
  have HSET := zh (fun x => Lib.cellsOf_set (done := done) (N := N + 1) (by omega) x)
  obtain ⟨k, hk⟩ : ∃ k, done.length = k := ⟨_, rfl⟩
  rw [hk] at hnext HSET hd HS ⊢
  have HK := zh hk
  have p1 : (0 : Int) ≤ (k : Int) := by omega
  have p2 : (k : Int) < (N : Int) + 1 := by omega
  by_cases hlt : k < N
  ·have hdl : decide ((k : Int) < (N : Int)) = true := by simp; omega
   rcases Lib.indexB_cases rest (oneB c) with hix | ⟨i, hix, hroom⟩
   ·exfalso
    have e := HS.out
    rw [splitB_missS rest c hix] at e
    have := HALL.out
    rw [← e, List.length_append, hk] at this
    simp at this
    omega
   ·have HI := zh hix
    have hr1 : i + 1 ≤ rest.size := hroom
    have HSN : Hid ((done ++ [rest.extract 0 i]) ++ Lib.splitB (oneB c) 0 (N - (k + 1)) (rest.extract (i + 1) rest.size) = ps) := by
     show _ = _
     have e := HS.out
     rw [show N - k = (N - (k + 1)) + 1 by omega, Lib.splitB_hit (oneB c) 0 _ rest i hix] at e
     rw [← e, List.append_assoc]; rfl
    have c0 : decide ((i : Int) < 0) = false := by simp
    have c1 : (0 : Int) ≤ (i : Int) := by omega
    have c2 : (i : Int) ≤ (rest.size : Int) := by omega
    have c3 : (0 : Int) ≤ (i : Int) + 1 := by omega
    have c4 : (i : Int) + 1 ≤ (rest.size : Int) := by omega
    have c5 : ((i : Int) + 1).toNat = i + 1 := by omega
    have c6 : (i : Int) ≤ 10000000 := by omega
    clear hix hroom hk
    go_wp2_with fail
    refine (HIX.out rest _).mono ?_
    rintro e w' ⟨rfl, rfl⟩
    rw [HI.out]
    go_wp2_with fail
    go_roundw
    case rel =>
     refine ⟨done ++ [rest.extract 0 i], _, rfl, ?_, ?_, ?_, ?_, ?_⟩
     ·rw [List.length_append, HK.out]; go_num
     ·rw [List.length_append, HK.out]; exact hlt
     ·rw [ByteArray.size_extract]; omega
     ·rw [List.length_append, HK.out]; exact HSN
     ·rw [HSET.out]
    case measure => simp [intOf]; omega
  ·obtain rfl : k = N := by omega
   have hdl : decide ((k : Int) < (k : Int)) = false := by simp
   have HF : Hid ((Lib.cellsOf done (k + 1)).setIfInBounds k (.string rest) = (ps.map Value.string).toArray) := by
    show _ = _
    have e := HS.out
    rw [Nat.sub_self] at e
    have e2 : done ++ [rest] = ps := e
    rw [HSET.out, e2]
    have := Lib.cellsOf_full ps
    rw [HALL.out] at this
    exact this
   have p3 : (0 : Int) ≤ (k : Int) + 1 := by omega
   have p4 : ((k : Int) + 1).toNat = k + 1 := by omega
   clear hk
   go_wp2_with fail
   go_ret
   refine ⟨rfl, ?_⟩
   rw [← HF.out]
theorem split_anyS (s : ByteArray) (c : UInt8) (w : World) (hs : s.size ≤ 10000000) :
 Calls Tryz.prog 71 #[.string s, .string (oneB c)] w fun e w' => e = .returned (.slice (some ⟨w.heap.size, 0, none⟩) (Lib.countB s (oneB c) + 1) (Lib.countB s (oneB c) + 1)) ∧
  w' = w.alloc (.cells ((Lib.splitB (oneB c) 0 (Lib.countB s (oneB c)) s).map Value.string).toArray 9) := by
 have HC := zh (fun w => genSplit_anyS s c w hs)
 clear hs
 go_enter Tryz.func71, Tryz.ntmps71
 go_wp2_with fail
 refine (HC.out _).mono ?_
 rintro e w' ⟨rfl, rfl⟩
 go_wp2_with fail
 go_ret
 exact ⟨rfl, rfl⟩
def pcs (c : UInt8) (s : ByteArray) : List ByteArray := Lib.splitB (oneB c) 0 (Lib.countB s (oneB c)) s
theorem pcs_len (c : UInt8) (s : ByteArray) : (pcs c s).length = Lib.countB s (oneB c) + 1 := Lib.splitB_all (oneB c) (Nat.le_refl _) 0 _ s rfl
theorem own_shapeD {w : World} {base e size : Nat} {v : Value} {n : Nat} {xs : List Value} (h : w.ownsRow base e size v n xs) : ∃ sp cap, v = .slice sp n cap := by
 obtain ⟨_, ⟨rfl, rfl⟩ | ⟨g, cap, cur, rfl, _⟩⟩ := h
 ·exact ⟨none, 0, rfl⟩
 ·exact ⟨_, cap, rfl⟩
theorem own_baseD {w : World} {base e size : Nat} {v : Value} {n : Nat} {xs : List Value} (h : w.ownsRow base e size v n xs) : ∀ k, v.ownBlock = some k → base ≤ k := fun k hk => (h.lt k hk).1
theorem own_belowD {w w' : World} {B e size n : Nat} {v : Value} {xs : List Value} (h : w.ownsRow B e size v n xs) (hb : Below w.heap.size w w') : w'.ownsRow B e size v n xs := by
 obtain ⟨h0, h1 | ⟨g, cap, cur, h1, h2, h3, h4⟩⟩ := h
 ·exact ⟨h0, .inl h1⟩
 ·exact ⟨h0, .inr ⟨g, cap, cur, h1, h2, (hb.block g (Array.getElem?_eq_some_iff.1 h3).1).trans h3, h4⟩⟩
theorem wpList_append_str {P : Program} {w : World} {ops : Array Oper} {rest : List Oper} {o : Oper} {a : Act} {Q : Exit → Act → World → Prop} (hgd : o.guard = none) (s x : Operand) (t e : TypeId)
 (ho : o.op = .call { callee := .builtin .append, args := #[s, x], argTypes := #[t, t] }) (ht : P.underlying t = some (.slice e)) (hi : (P.info? e).map (fun i => (i.zero, i.size, i.bytes)) = some (some (.string ByteArray.empty), 1, 16))
 (base : Nat) (v : Value) (xs : List ByteArray) (n : Nat) (hs : a.eval s = v) (hn : n = xs.length) (hown : w.ownsRow base e 1 v n (xs.map Value.string))
 (g : Nat) (y : ByteArray) (hx : a.eval x = .slice (some ⟨g, 0, none⟩) 1 1) (hc : w.cell? ⟨g, 0, none⟩ = some (.string y))
 (hlen : n ≤ 100000000) (hbase : base ≤ w.heap.size)
 (h : ∀ sp cap w', Hid (w'.ownsRow base e 1 (.slice sp (n + 1) cap) (n + 1) ((xs ++ [y]).map Value.string)) → w.grownBy w' v.ownBlock → wpList P ops Q rest (a.put o.dst (.slice sp (n + 1) cap)) w') : wpList P ops Q (o :: rest) a w := by
 obtain ⟨i0, hi0, hz0, hz1, hz2⟩ := info_parts hi
 refine wpList_append_own w hgd s x t ho base e i0 _ 1 16 ht hi0 hz0 hz1 hz2 rfl (by decide) v n _ hs hown ⟨g, 0, none⟩ 1 1 [.string y] hx rfl ?_ (by intro u hu; simp at hu; subst hu; rfl) (by unfold maxLen; omega) (by omega) hbase ?_
 ·intro j u hj
  have hj0 : j = 0 := by have := (List.getElem?_eq_some_iff.1 hj).1; simp at this; omega
  subst hj0
  simp at hj; subst hj; rw [Addr.add_mid]; exact hc
 ·intro v' w' h1 h2 _
  obtain ⟨sp, cap, rfl⟩ := own_shapeD h1
  exact h sp cap w' (by show World.ownsRow _ _ _ _ _ _ _; rw [List.map_append]; exact h1) h2
def unwS (s : ByteArray) : Option ByteArray := (unword s.data.toList).map fun m => ⟨m.toArray⟩
def unwsL : List ByteArray → Option (List ByteArray)
 | [] => some []
 | s :: r => match unwS s with
   | none => none
   | some x => (unwsL r).map (x :: ·)
theorem unwsL_none {s : ByteArray} {r : List ByteArray} (h : unwS s = none) : unwsL (s :: r) = none := by rw [unwsL, h]
theorem unwsL_some {s x : ByteArray} {r : List ByteArray} (h : unwS s = some x) : unwsL (s :: r) = (unwsL r).map (x :: ·) := by rw [unwsL, h]
theorem UnwS_any (s : ByteArray) (w : World) (hs : s.size ≤ 1099511627776) :
 Calls Tryz.prog 122 #[.string s] w fun e w' => (match unwS s with | some x => e = .returned (.tuple #[.string x, .bool true]) | none => e = .returned (.tuple #[.string ⟨#[]⟩, .bool false])) ∧ Below w.heap.size w w' :=
 (Unword_any s w hs).mono fun e w' h => by
  unfold UnwRes at h
  unfold unwS
  cases hu : unword s.data.toList with
  | none => rw [hu] at h; exact h
  | some l => rw [hu] at h; exact h
def ConvRes (w : World) (r : Option (List ByteArray)) (e : Ending) (w' : World) : Prop := match r with
 | none => e = .returned (.tuple #[.slice none 0 0, .bool false]) ∧ Below w.heap.size w w'
 | some xs => ∃ sp cap, e = .returned (.tuple #[.slice sp xs.length cap, .bool true]) ∧ w'.ownsRow w.heap.size 9 1 (.slice sp xs.length cap) xs.length (xs.map Value.string) ∧ Below w.heap.size w w'
theorem convRes_none {w : World} {r : Option (List ByteArray)} {e : Ending} {w' : World} (h : r = none) (he : e = .returned (.tuple #[.slice none 0 0, .bool false])) (hb : Below w.heap.size w w') : ConvRes w r e w' := by unfold ConvRes; rw [h]; exact ⟨he, hb⟩
theorem convW_any (g n : Nat) (ws : List ByteArray) (w : World) (hn : ws.length = n) (hn2 : n ≤ 10000001) (hg : g < w.heap.size) (hrow : ∀ j, j < n → w.cell? ⟨g, j, none⟩ = some (.string (ws.getD j ByteArray.empty))) (hsz : ∀ x ∈ ws, x.size ≤ 1099511627776) :
 Calls Tryz.prog 121 #[.slice (some ⟨g, 0, none⟩) n n, .func (.func 122) #[] #[]] w (ConvRes w (unwsL ws)) := by
 have HN := zh hn; have HROW := zh hrow; have HSZ := zh hsz
 obtain ⟨i0, hi0, hz0, hz1, hz2⟩ := info_parts infoStrS
 clear hn hrow hsz
 go_enter Tryz.func121, Tryz.ntmps121
 go_wp2_with (refine wpList_make_own w rfl _ _ 27 rfl w.heap.size 9 i0 _ 1 Tryz.underlying27 hi0 hz0 hz1 .i64 .i64 (n : Int) n rfl rfl rfl (by rw [hz2]; omega) (by unfold maxLen; omega) (Nat.le_refl _) ?_; intro w1 hown1 hg1)
 have HB1 := zh ((Below.refl w.heap.size w).grown hg1 (Nat.le_refl _) (fun k e => by cases e))
 have HO1 := zh hown1
 clear hg1 hown1 hi0 hz0 hz1 hz2
 go_loopw [6, 16] (fun v i wr => ∃ (k : Nat) (done : List ByteArray) (sp : Option Addr) (cap : Nat), k ≤ n ∧ i = .int .i64 k ∧ Hid (k = done.length) ∧ v = .slice sp k cap ∧ Hid (unwsL ws = (unwsL (ws.drop k)).map (done ++ ·)) ∧ Hid (wr.ownsRow w.heap.size 9 1 (.slice sp k cap) k (done.map Value.string)) ∧ Hid (Below w.heap.size w wr)) (fun _ i _ => n - (intOf i).toNat)
 case atStart => exact ⟨0, [], _, _, Nat.zero_le _, rfl, rfl, rfl, by show _ = _; simp, HO1.out, HB1.out⟩
 case round =>
  clear HO1 HB1
  obtain ⟨k, done, sp, cap, hk, rfl, HK, rfl, HR, hown, hbe⟩ := hrel
  have hbs := hbe.out.size
  by_cases hlt : k < n
  ·have hd : decide ((k : Int) < (n : Int)) = true := by simp; omega
   have p1 : (0 : Int) ≤ (k : Int) := by omega
   have p2 : (k : Int) < (n : Int) := by omega
   have hlw : k < ws.length := by rw [HN.out]; exact hlt
   have c1 := (hbe.out.cell (p := ⟨g, k, none⟩) hg).trans (HROW.out k hlt)
   have hge : ws.getD k ByteArray.empty = ws[k] := by rw [List.getD_eq_getElem?_getD, List.getElem?_eq_getElem hlw]; rfl
   rw [hge] at c1
   have hdr : ws.drop k = ws[k] :: ws.drop (k + 1) := List.drop_eq_getElem_cons hlw
   have hc := fun w => UnwS_any ws[k] w (HSZ.out _ (List.getElem_mem hlw))
   obtain ⟨x, hx⟩ : ∃ x, ws[k] = x := ⟨_, rfl⟩
   rw [hx] at c1 hdr hc
   clear hge hx
   cases hu : unwS x with
   | none =>
     have HX : Hid (unwsL ws = none) := by show _ = _; rw [HR.out, hdr, unwsL_none hu]; rfl
     rw [hu] at hc
     have HC := zh hc
     clear hc hu hdr
     go_wp2_with fail
     refine (HC.out _).mono ?_
     rintro e w6 ⟨rfl, b6⟩
     have B6 := zh (hbe.out.trans (b6.mono hbs))
     clear b6
     go_wp2_with fail
     go_ret2
     exact convRes_none HX.out rfl B6.out
   | some y =>
     have HX : Hid (unwsL ws = (unwsL (ws.drop (k + 1))).map ((done ++ [y]) ++ ·)) := by
      show _ = _
      rw [HR.out, hdr, unwsL_some hu, Option.map_map]
      congr 1
      funext z
      simp
     rw [hu] at hc
     have HC := zh hc
     clear hc hu hdr
     go_wp2_with fail
     refine (HC.out _).mono ?_
     rintro e w6 ⟨rfl, b6⟩
     have B6 := zh (hbe.out.trans (b6.mono hbs))
     have hz6 := B6.out.size
     have hown6 := zh (own_belowD hown.out b6)
     clear b6 c1
     go_wp2_with (first
      | (at_builtin; refine wpList_append_str rfl (.tmp 28) (.tmp 30) 27 9 rfl Tryz.underlying27 infoStrS w.heap.size _ done k rfl HK.out (hown6.out.alloc _) w6.heap.size y rfl (by simp) (by omega) (by simp; omega) ?_; intro sp5 cap5 w5 hown5 hg5))
     have hbe5 := (B6.out.alloc hz6 (.cells #[.string y] 9)).grown hg5 (by simp; omega) (own_baseD hown6.out)
     go_roundw
     case rel => exact ⟨k + 1, done ++ [y], sp5, cap5, by omega, by go_num, by show _ = _; rw [List.length_append, ← HK.out]; rfl, rfl, HX, hown5, hbe5⟩
     case measure => simp [intOf]; omega
  ·obtain rfl : n = k := by omega
   have hd : decide ((n : Int) < (n : Int)) = false := by simp
   have HX : Hid (unwsL ws = some done) := by
    show _ = _
    rw [HR.out, List.drop_eq_nil_of_le (by rw [HN.out]; exact Nat.le_refl _)]; simp [unwsL]
   go_wp2_with fail
   go_ret2
   unfold ConvRes
   rw [HX.out]
   have h1 := hown.out
   have h2 := HK.out
   rw [h2] at h1 ⊢
   exact ⟨sp, cap, rfl, h1, hbe.out⟩
end Go.Proofs.YtecllfbadciaoaaGreatDoor
