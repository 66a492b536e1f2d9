/-
  The walks of small functions of package document: which bytes are letters or digits, which stand for themselves, where a byte is in a string, which strings are names (for all arguments that are named in each theorem).
-/
import Derived.Test.YtcligodahogpkaaGreatDoorZip
import Derived.Test.YtcligodahogpkaaGreatDoorProg
import Derived.WalkKit
import Derived.WalkSpells
import Derived.WalkLawsBesides
import Derived.Deep.QuietTactic
import Derived.BigQuiet
import Derived.Lib.Hide
import Derived.Lib.Bytealg
import Derived.Lib.AppendStr
import Derived.Lib.UnsafeStr
import Derived.Lib.BufferWrite
import Derived.Laws.IdiomStrings
import Derived.Deep.RegionHeld3
import Derived.Deep.DrawnRows
import Derived.BigRegion
import Derived.Deep.MidRow
import Derived.Laws.OwnMore
import Derived.Deep.LoopGhost
import Derived.Deep.Cut
import Derived.WalkMore
set_option maxRecDepth 100000
set_option maxHeartbeats 8000000
namespace Go.Proofs.YtcligodahogpkaaGreatDoor
open Go.RowKit
theorem bS {a b : Bool} (h : a = b) : Ending.returned (.bool a) = .returned (.bool b) := by rw [h]
theorem oR {k : IntKind} {a b : Int} (h : a = b) : Ending.returned (.int k a) = .returned (.int k b) := by rw [h]
def eH (c : Int) : Bool := decide (48 ≤ c) && decide (c ≤ 57)
def ldB (c : Int) : Bool := (decide (97 ≤ c) && decide (c ≤ 122)) || eH c
def zR (c : Int) : Bool := (decide (33 ≤ c) && decide (c ≤ 125)) && (c != 37)
theorem uP (c : Int) (w : World) :
 Calls Tryz.prog 122 #[.int .u8 c] w fun e w' => e = .returned (.bool (eH c)) ∧ w = w' := by
 by_cases h1 : 48 ≤ c
 ·go_enter Tryz.func122, Tryz.ntmps122
  go_wp2
  go_ret
  exact ⟨bS (by simp [eH, h1]), rfl⟩
 ·go_enter Tryz.func122, Tryz.ntmps122
  go_wp2
  go_ret
  exact ⟨bS (by unfold eH; rw [decide_eq_false (p := 48 ≤ c) (by omega)]; rfl), rfl⟩
theorem dF (c : Int) (w : World) :
 Calls Tryz.prog 85 #[.int .u8 c] w fun e w' => e = .returned (.bool (ldB c)) ∧ w = w' := by
 by_cases h1 : 97 ≤ c
 ·by_cases h2 : c ≤ 122
  ·go_enter Tryz.func85, Tryz.ntmps85
   go_wp2
   go_ret
   exact ⟨bS (by unfold ldB; rw [decide_eq_true h1, decide_eq_true h2]; rfl), rfl⟩
  ·go_enter Tryz.func85, Tryz.ntmps85
   go_wp2_with (go_at_call 122; refine (uP _ _).mono ?_; rintro e w' ⟨rfl, rfl⟩)
   go_ret
   exact ⟨bS (by unfold ldB; rw [decide_eq_false (p := c ≤ _) (by omega)]; simp), rfl⟩
 ·go_enter Tryz.func85, Tryz.ntmps85
  go_wp2_with (go_at_call 122; refine (uP _ _).mono ?_; rintro e w' ⟨rfl, rfl⟩)
  go_ret
  exact ⟨bS (by unfold ldB; rw [decide_eq_false (p := _ ≤ c) (by omega)]; simp), rfl⟩
theorem tM (c : Int) (w : World) :
 Calls Tryz.prog 111 #[.int .u8 c] w fun e w' => e = .returned (.bool (zR c)) ∧ w = w' := by
 by_cases h1 : 33 ≤ c
 ·by_cases h2 : c ≤ 125
  ·go_enter Tryz.func111, Tryz.ntmps111
   go_wp2
   go_ret
   exact ⟨bS (by unfold zR; rw [decide_eq_true h1, decide_eq_true h2]; rfl), rfl⟩
  ·go_enter Tryz.func111, Tryz.ntmps111
   go_wp2
   go_ret
   exact ⟨bS (by unfold zR; rw [decide_eq_false (p := c ≤ _) (by omega)]; simp), rfl⟩
 ·go_enter Tryz.func111, Tryz.ntmps111
  go_wp2
  go_ret
  exact ⟨bS (by unfold zR; rw [decide_eq_false (p := _ ≤ c) (by omega)]; simp), rfl⟩
theorem oJ (s : ByteArray) (w : World) :
 Calls Tryz.prog 110 #[.string s] w fun e w' => e = .returned (.bool (decide (32768 < s.size))) ∧ w = w' := by
 go_enter Tryz.func110, Tryz.ntmps110
 go_wp2
 go_ret
 exact ⟨bS (by simp; omega), rfl⟩
theorem mM (s : ByteArray) (c : Int) (w : World) :
 Calls Tryz.prog 123 #[.string s, .int .u8 c] w fun e w' => e = .returned (.int .i64 (Lib.indexByte s.data.toList c.toNat.toUInt8)) ∧ w = w' := by
 go_enter Tryz.func123, Tryz.ntmps123
 go_wp2
 rw [run_callFunc_extern Tryz.func159 (by kernel_rfl) (by kernel_rfl) (by kernel_rfl) (e := Extern.BytealgIndexByte.indexByte) (by kernel_rfl), Lib.run_indexByteString]
 simp only [Result.andThen]
 rw [Oper.upon_value]
 go_wp2
 go_ret
 exact ⟨rfl, rfl⟩
theorem lN (s : ByteArray) (c : Int) (w : World) :
 Calls Tryz.prog 86 #[.string s, .int .u8 c] w fun e w' => e = .returned (.int .i64 (Lib.indexByte s.data.toList c.toNat.toUInt8)) ∧ w = w' := by
 go_enter Tryz.func86, Tryz.ntmps86
 go_wp2_with (go_at_call 123; refine (mM _ _ _).mono ?_; rintro e w' ⟨rfl, rfl⟩)
 go_ret
 exact ⟨rfl, rfl⟩
def nmc (c : UInt8) : Bool := ldB c.toNat || (c == 46 || c == 95 || c == 45)
def nmB (l : List UInt8) : Bool := decide (l.length ≤ 64) && ((match l with | c :: _ => ldB c.toNat | [] => false) && l.all nmc)
theorem JH (c : UInt8) : ((c.toNat : Int)).toNat.toUInt8 = c := by simp
theorem dots (c : UInt8) : decide (Lib.indexByte [46, 95, 45] c < 0) = !(c == 46 || c == 95 || c == 45) := by
 unfold Lib.indexByte Lib.indexByte Lib.indexByte Lib.indexByte
 by_cases h1 : c = 46
 ·subst h1; rfl
 ·by_cases h2 : c = 95
  ·subst h2; rfl
  ·by_cases h3 : c = 45
   ·subst h3; rfl
   ·have e1 : ((46 : UInt8) == c) = false := by simpa using fun h => h1 h.symm
    have e2 : ((95 : UInt8) == c) = false := by simpa using fun h => h2 h.symm
    have e3 : ((45 : UInt8) == c) = false := by simpa using fun h => h3 h.symm
    simp [e1, e2, e3, h1, h2, h3]
theorem vW {c : UInt8} (h : ldB c.toNat = false) : nmc c = !decide (Lib.indexByte [46, 95, 45] c < 0) := by
 rw [dots]; unfold nmc; rw [h]; simp
theorem CD {c : UInt8} (h : ldB c.toNat = true) : nmc c = true := by unfold nmc; rw [h]; rfl
theorem kQ (s : ByteArray) (k : Nat) (h : k < s.size) : s.data.toList.take (k + 1) = s.data.toList.take k ++ [s[k]] := by
 rw [List.take_succ_eq_append_getElem (by simpa using h)]; rfl
theorem yF (s : ByteArray) (k : Nat) (h : s.size ≤ k) : s.data.toList.take k = s.data.toList := List.take_of_length_le (by rw [← Lib.size_eq]; exact h)
theorem DQ (s : ByteArray) (h : 0 < s.size) : ∃ t, s.data.toList = s[0] :: t := by
 have h' : 0 < s.data.toList.length := by rw [← Lib.size_eq]; exact h
 cases hl : s.data.toList with
 | nil => rw [hl] at h'; simp at h'
 | cons a t =>
   refine ⟨t, ?_⟩
   have : s[0] = s.data.toList[0] := rfl
   rw [this]; simp [hl]
theorem xO {s : ByteArray} (h : 0 < s.size) (h64 : s.size ≤ 64) : nmB s.data.toList = (ldB (s[0].toNat) && s.data.toList.all nmc) := by
 have h' : s.data.toList.length ≤ 64 := by rw [← Lib.size_eq]; exact h64
 obtain ⟨t, ht⟩ := DQ s h
 unfold nmB
 rw [decide_eq_true h', ht]
 simp
theorem tU {s : ByteArray} (h : s.size = 0) : nmB s.data.toList = false := by
 have : s.data.toList = [] := List.eq_nil_of_length_eq_zero (by rw [← Lib.size_eq]; exact h)
 rw [this]; rfl
theorem xN {s : ByteArray} (h : 64 < s.size) : nmB s.data.toList = false := by
 unfold nmB
 rw [decide_eq_false (by rw [← Lib.size_eq]; omega)]; rfl
theorem nH {s : ByteArray} {k : Nat} (h : k < s.size) (hc : nmc s[k] = false) : s.data.toList.all nmc = false := by
 rw [Bool.eq_false_iff]; intro ha
 have := List.all_eq_true.1 ha s[k] (by have : s[k] = s.data.toList[k]'(by simpa using h) := rfl
                                        rw [this]; exact List.getElem_mem _)
 rw [hc] at this; cases this
theorem ID (s : ByteArray) (w : World) (hs : s.size ≤ maxLen) :
 Calls Tryz.prog 49 #[.string s] w fun e w' => e = .returned (.bool (nmB s.data.toList)) ∧ w = w' := by
 unfold maxLen at hs
 by_cases h0 : s.size = 0
 ·have hn := tU h0
  generalize nmB s.data.toList = r at *
  have e0 : s.toList = [] := by rw [Lib.toList_data]; exact List.eq_nil_of_length_eq_zero (by rw [← Lib.size_eq]; exact h0)
  have HN := zh hn; clear hn
  go_enter Tryz.func49, Tryz.ntmps49
  go_wp2
  go_ret
  exact ⟨bS HN.out.symm, rfl⟩
 ·have e0 : s.toList.isEmpty = false := by
   rw [Lib.toList_data, List.isEmpty_eq_false_iff]
   intro h; rw [Lib.size_eq, h] at h0; simp at h0
  have H0 : 0 < s.size := by omega
  by_cases h64 : 64 < s.size
  ·have HN := zh (xN h64)
   generalize nmB s.data.toList = r at *
   go_enter Tryz.func49, Tryz.ntmps49
   go_wp2
   go_ret
   exact ⟨bS HN.out.symm, rfl⟩
  ·have HN := zh (xO H0 (by omega))
   generalize nmB s.data.toList = r at *
   cases hld : ldB (s[0].toNat)
   ·rw [hld] at HN
    have HL := zh hld; clear hld
    go_enter Tryz.func49, Tryz.ntmps49
    go_wp2_with (go_at_call 85; refine (dF _ _).mono ?_; rintro e w' ⟨rfl, rfl⟩; rw [HL.out])
    go_ret
    exact ⟨bS (by rw [HN.out]; rfl), rfl⟩
   ·rw [hld] at HN
    have HL := zh hld; clear hld
    go_enter Tryz.func49, Tryz.ntmps49
    go_wp2_with (go_at_call 85; refine (dF _ _).mono ?_; rintro e w' ⟨rfl, rfl⟩; rw [HL.out])
    go_loop [19] (fun i => ∃ k : Nat, k ≤ s.size ∧ i = .int .i64 k ∧ Hid ((s.data.toList.take k).all nmc = true)) (fun i => s.size - (intOf i).toNat)
    case atStart => exact ⟨0, by omega, rfl, rfl⟩
    case round =>
     obtain ⟨k, hk, rfl, HA⟩ := hrel
     by_cases hlt : k < s.size
     ·have HS := zh (kQ s k hlt)
      cases hl : ldB (s[k].toNat)
      ·have HK := zh (vW hl)
       have HL2 := zh hl; clear hl
       cases hd : decide (Lib.indexByte [46, 95, 45] s[k] < 0)
       ·rw [hd] at HK
        have hd2 : ¬ Lib.indexByte [46, 95, 45] s[k] < 0 := of_decide_eq_false hd
        clear hd
        go_wp2_with (first | (go_at_call 85; refine (dF _ _).mono ?_; rintro e w' ⟨rfl, rfl⟩; rw [HL2.out]) | (go_at_call 86; refine (lN _ _ _).mono ?_; rintro e w' ⟨rfl, rfl⟩; rw [JH]))
        go_round
        case rel => exact ⟨k + 1, by omega, by go_num, by show _ = true; rw [HS.out, List.all_append, HA.out]; simp [HK.out]⟩
        case measure => simp [intOf]; omega
       ·rw [hd] at HK
        have hd2 : Lib.indexByte [46, 95, 45] s[k] < 0 := of_decide_eq_true hd
        clear hd
        go_wp2_with (first | (go_at_call 85; refine (dF _ _).mono ?_; rintro e w' ⟨rfl, rfl⟩; rw [HL2.out]) | (go_at_call 86; refine (lN _ _ _).mono ?_; rintro e w' ⟨rfl, rfl⟩; rw [JH]))
        go_ret
        exact ⟨bS (by rw [HN.out, nH hlt HK.out]; rfl), rfl⟩
      ·have HK := zh (CD hl)
       have HL2 := zh hl; clear hl
       go_wp2_with (go_at_call 85; refine (dF _ _).mono ?_; rintro e w' ⟨rfl, rfl⟩; rw [HL2.out])
       go_round
       case rel => exact ⟨k + 1, by omega, by go_num, by show _ = true; rw [HS.out, List.all_append, HA.out]; simp [HK.out]⟩
       case measure => simp [intOf]; omega
     ·go_wp2
      go_ret
      exact ⟨bS (by rw [HN.out, ← yF s k (by omega), HA.out]; rfl), rfl⟩
def GF (n : Nat) : UInt8 := if n < 10 then 48 + n.toUInt8 else 55 + n.toUInt8
def pT (c : UInt8) : List UInt8 := if zR c.toNat then [c] else [37, GF (c.toNat / 16), GF (c.toNat % 16)]
def dS (l : List UInt8) : List UInt8 := if l = [] then [126] else l.flatMap pT
theorem qT {c : UInt8} (h : zR c.toNat = true) : pT c = [c] := by unfold pT; rw [if_pos h]
theorem yD {c : UInt8} (h : zR c.toNat = false) : pT c = [37, GF (c.toNat / 16), GF (c.toNat % 16)] := by unfold pT; rw [if_neg (by rw [h]; simp)]
theorem LQ (c : UInt8) : (pT c).length ≤ 3 := by unfold pT; split <;> simp
theorem wN (l : List UInt8) : (l.flatMap pT).length ≤ 3 * l.length := by
 induction l with
 | nil => simp
 | cons a t ih => have := LQ a; simp only [List.flatMap_cons, List.length_append, List.length_cons]; omega
theorem nQ (l : List UInt8) : (dS l).length ≤ 3 * l.length + 1 := by
 unfold dS; split
 ·simp
 ·have := wN l; omega
theorem pP (s : ByteArray) (k : Nat) (h : k < s.size) : s.data.toList.take (k + 1) = s.data.toList.take k ++ [s[k]] := by
 rw [List.take_succ_eq_append_getElem (by simpa using h)]; rfl
theorem uI (s : ByteArray) (k : Nat) (h : k < s.size) : (s.data.toList.take (k + 1)).flatMap pT = (s.data.toList.take k).flatMap pT ++ pT s[k] := by
 rw [pP s k h, List.flatMap_append]; simp
theorem lD (s : ByteArray) : s.data.toList.take s.size = s.data.toList := List.take_of_length_le (by rw [← Lib.size_eq]; exact Nat.le_refl _)
theorem Tryz.info5 : (Tryz.prog.info? 5).map (fun i => (i.zero, i.size, i.bytes)) = some (some (.int .u8 0), 1, 1) := by kernel_rfl
theorem nE {w : World} {base e : Nat} {v : Value} {l : List UInt8} (h : w.ownsRow base e 1 v l.length (Lib.byteCells l)) :
 (v = .slice none 0 0 ∧ l = []) ∨ ∃ g cap, v = .slice (some ⟨g, 0, none⟩) l.length cap ∧ base ≤ g ∧ g < w.heap.size ∧ ∀ j (hj : j < l.length), w.cell? ⟨g, j, none⟩ = some (.int .u8 (l[j].toNat : Int)) := by
 obtain ⟨_, ⟨rfl, h0⟩ | ⟨g, cap, cur, rfl, hb, hg, hle, _, hsz, htk⟩⟩ := h
 ·exact .inl ⟨rfl, List.eq_nil_of_length_eq_zero h0⟩
 ·refine .inr ⟨g, cap, rfl, hb, (Array.getElem?_eq_some_iff.1 hg).1, fun j hj => ?_⟩
  rw [cell_of_row w g j cur e _ hg]
  have h1 : (cur.toList.take (l.length * 1))[j]? = some (.int .u8 (l[j].toNat : Int)) := by rw [htk]; simp [Lib.byteCells, List.getElem?_eq_getElem hj]
  rw [List.getElem?_take, if_pos (by omega)] at h1
  simpa using h1
theorem pQ {w : World} {base e : Nat} {v : Value} {l : List UInt8} (h : w.ownsRow base e 1 v l.length (Lib.byteCells l)) :
 (convert 22 9 v).run Tryz.prog w = .ok (.string ⟨l.toArray⟩) w := by
 rcases nE h with ⟨rfl, rfl⟩ | ⟨g, cap, rfl, _, _, hc⟩
 ·rw [run_convert_bytes_string w 22 9 5 none 0 0 Tryz.underlying22 Tryz.underlying5 Tryz.underlying9]
  kernel_rfl
 ·exact run_convert_bytes_back w 22 9 5 _ cap l Tryz.underlying22 Tryz.underlying5 Tryz.underlying9 (fun j hj => by rw [Addr.add_mid, Nat.zero_add]; exact hc j hj)
def QS (base : Nat) (w : World) (l : List UInt8) (e : Ending) (w' : World) : Prop := ∃ v, e = .returned v ∧ Hid (w'.ownsRow base 5 1 v l.length (Lib.byteCells l)) ∧ Below base w w'
theorem lO (n : Nat) (h : n < 16) (w : World) : (Instr.index 9 (.string ⟨#[48, 49, 50, 51, 52, 53, 54, 55, 56, 57, 65, 66, 67, 68, 69, 70]⟩) (.int .u8 (n : Int))).run Tryz.prog w = .ok (.int .u8 ((GF n).toNat : Int)) w := by
 rcases (by omega : n = 0 ∨ n = 1 ∨ n = 2 ∨ n = 3 ∨ n = 4 ∨ n = 5 ∨ n = 6 ∨ n = 7 ∨ n = 8 ∨ n = 9 ∨ n = 10 ∨ n = 11 ∨ n = 12 ∨ n = 13 ∨ n = 14 ∨ n = 15) with rfl | rfl | rfl | rfl | rfl | rfl | rfl | rfl | rfl | rfl | rfl | rfl | rfl | rfl | rfl | rfl <;> kernel_rfl
theorem qZ (w : World) (L : List Value) (t : TypeId) : ∀ j u, L[j]? = some u → ((w.alloc (.cells L.toArray t)).drew).cell? ((⟨w.heap.size, 0, none⟩ : Addr).add j) = some u := by
 intro j u hj
 have h : ((w.alloc (.cells L.toArray t)).drew).heap[w.heap.size]? = some (.cells L.toArray t (0, 0)) := heap_alloc_new w _
 rw [Addr.add_mid, Nat.zero_add, cell_of_row _ w.heap.size j _ t (0, 0) h]
 simpa using hj
theorem jN {P : Program} {w : World} {ops : Array Oper} {o : Oper} {a : Act} {K : Act → World → Prop} {Q : Exit → Act → World → Prop} {E : Prop} (hgd : o.guard = none) (s x : Operand) (t : TypeId)
 (ho : o.op = .call { callee := .builtin .append, args := #[s, x], argTypes := #[t, t] })
 (base : Nat) (e : TypeId) (i : TypeInfo) (z : Value) (size bytes : Nat) (ht : P.underlying t = some (.slice e)) (hi : P.info? e = some i) (hz : i.zero = some z)
 (hsize : i.size = size) (hby : i.bytes = bytes) (hzs : z.cells.size = size) (hsz : 0 < size)
 (v : Value) (n : Nat) (xs : List Value) (hs : a.eval s = v) (hown : w.ownsRow base e size v n xs)
 (ad : Addr) (m c : Nat) (news : List Value) (hx : a.eval x = .slice (some ad) m c) (hl : news.length = m * size) (hnews : ∀ j u, news[j]? = some u → w.cell? (ad.add j) = some u) (h1 : ∀ u ∈ news, u.oneCell' = true)
 (h63 : n + m ≤ maxLen) (hbytes : (n + m) * bytes ≤ 140737488355328) (hbase : base ≤ w.heap.size)
 (h : ∀ v' w', w'.ownsRow base e size v' (n + m) (xs ++ news) → w.grownBy w' v.ownBlock → (v' = .slice none 0 0 ↔ v = .slice none 0 0 ∧ m = 0) → K (a.put o.dst v') w') :
 if Region.wanted o (yielded ops a.tmps) = true then Oper.wp P o a w K Q else E := by
 have hw : Region.wanted o (yielded ops a.tmps) = true := by simp [Region.wanted, hgd]
 rw [if_pos hw]
 exact wp_append_own w s x t ho base e i z size bytes ht hi hz hsize hby hzs hsz v n xs hs hown ad m c news hx hl hnews h1 h63 hbytes hbase h
theorem OT : ∀ c : Fin 256, bits .and .u8 (c.val : Int) 15 = (c.val : Int) % 16 := by decide +kernel
theorem OU (c : UInt8) : bits .and .u8 (c.toNat : Int) 15 = (c.toNat : Int) % 16 := OT ⟨c.toNat, UInt8.toNat_lt _⟩
theorem eV {w : World} {base e size : Nat} {v : Value} {n : Nat} {xs : List Value} (h : w.ownsRow base e size v n xs) : ∀ k, v.ownBlock = some k → base ≤ k := fun k hk => (h.lt k hk).1
theorem kR (base : Nat) (v : Value) (xs : List UInt8) (s : ByteArray) (w : World) (hown : w.ownsRow base 5 1 v xs.length (Lib.byteCells xs)) (hbase : base ≤ w.heap.size) (hlen : xs.length + 3 * s.size + 1 ≤ 1099511627776) :
 Calls Tryz.prog 75 #[v, .string s] w (QS base w (xs ++ dS s.data.toList)) := by
 have AQ := zh hown; clear hown
 obtain ⟨i0, hi0, hz0, hz1, hz2⟩ := info_parts Tryz.info5
 have HI0 := zh hi0; have HZ0 := zh hz0; have HZ1 := zh hz1; have HZ2 := zh hz2
 clear hi0 hz0 hz1 hz2
 by_cases h0 : s.size = 0
 ·have e0 : s.toList = [] := by rw [Lib.toList_data]; exact List.eq_nil_of_length_eq_zero (by rw [← Lib.size_eq]; exact h0)
  have HW := zh (show dS s.data.toList = [126] by rw [← Lib.toList_data, e0]; rfl)
  generalize dS s.data.toList = wl at *
  clear h0
  go_enter Tryz.func75, Tryz.ntmps75
  go_wp2_with (at_builtin; (refine Lib.wpList_append_own_string _ rfl (.tmp 9) (.const (.string ⟨#[126]⟩)) 22 9 rfl base 5 i0 Tryz.underlying22 Tryz.underlying9 HI0.out HZ0.out HZ1.out HZ2.out _ _ _ rfl AQ.out ⟨#[126]⟩ rfl (by unfold maxLen; show xs.length + 1 ≤ _; omega) (by show xs.length + 1 ≤ _; omega) hbase ?_; intro v' w1 hown1 hg1 _; have HO1 := zh hown1; clear hown1))
  go_ret
  refine ⟨v', rfl, ?_, (Below.refl _ _).grown hg1 hbase (eV AQ.out)⟩
  rw [HW.out]
  have := HO1.out
  rw [show (⟨#[126]⟩ : ByteArray).size = 1 from rfl] at this
  show World.ownsRow _ _ _ _ _ _ _
  simpa [Lib.byteCells_append, Lib.strCells_eq] using this
 ·have e0 : s.toList.isEmpty = false := by
   rw [Lib.toList_data, List.isEmpty_eq_false_iff]
   intro h; rw [Lib.size_eq, h] at h0; simp at h0
  have HW := zh (show dS s.data.toList = (s.data.toList.take s.size).flatMap pT by
   unfold dS; rw [lD, if_neg (by intro h; rw [Lib.size_eq, h] at h0; simp at h0)])
  generalize dS s.data.toList = wl at *
  clear h0
  go_enter Tryz.func75, Tryz.ntmps75
  go_wp2_with fail
  go_loopw [0, 13] (fun b i wr => ∃ k : Nat, k ≤ s.size ∧ i = .int .i64 k ∧ Hid (wr.ownsRow base 5 1 b (xs ++ (s.data.toList.take k).flatMap pT).length (Lib.byteCells (xs ++ (s.data.toList.take k).flatMap pT))) ∧ Below base w wr) (fun _ i _ => s.size - (intOf i).toNat)
  case atStart => exact ⟨0, by omega, rfl, by show World.ownsRow _ _ _ _ _ _ _; simpa using AQ.out, Below.refl _ _⟩
  case round =>
   obtain ⟨k, hk, rfl, hown, hbe⟩ := hrel
   by_cases hlt : k < s.size
   ·have HS := zh (uI s k hlt)
    have hle := wN (s.data.toList.take k)
    have hle2 : (s.data.toList.take k).length ≤ k := List.length_take_le _ _
    have hbs := Nat.le_trans hbase hbe.size
    generalize (s.data.toList.take k).flatMap pT = fl at *
    clear AQ
    cases hp : zR (s[k].toNat)
    ·have HK := zh (yD hp)
     have HP := zh hp; clear hp
     have hc256 : s[k].toNat < 256 := UInt8.toNat_lt _
     have hx1 := lO (s[k].toNat / 16) (by omega)
     have hx2 := lO (s[k].toNat % 16) (by omega)
     rw [show ((s[k].toNat / 16 : Nat) : Int) = (s[k].toNat : Int) / 16 by omega] at hx1
     rw [show ((s[k].toNat % 16 : Nat) : Int) = (s[k].toNat : Int) % 16 by omega] at hx2
     have hand := OU s[k]
     go_wp2_with (go_at_call 111; refine (tM _ _).mono ?_; rintro e w' ⟨rfl, rfl⟩; rw [HP.out])
     go_region_held3 (fun _ => True) (trivial) ((refine jN rfl (.tmp 25) (.tmp 32) 22 (by rfl) base 5 i0 (.int .u8 0) 1 1 Tryz.underlying22 HI0.out HZ0.out HZ1.out HZ2.out rfl (by decide) _ _ _ (by rfl) (by exact (hown.out.alloc _).drew) ⟨wr.heap.size, 0, none⟩ 3 3 (Lib.byteCells [37, GF (s[k].toNat / 16), GF (s[k].toNat % 16)]) (by rfl) (by rfl) (by exact qZ _ _ _) (Lib.byteCells_one _) (by unfold maxLen; simp only [List.length_append]; omega) (by simp only [List.length_append]; omega) (by simp; omega) ?_; intro v' w1 hown1 hg1 _; have HO1 := zh hown1; clear hown1))
     all_goals
      go_wp2
      go_roundw
      case rel =>
       refine ⟨k + 1, by omega, by go_num, ?_, ?_⟩
       ·rw [HS.out, HK.out]
        have := HO1.out
        show World.ownsRow _ _ _ _ _ _ _
        simpa [Lib.byteCells_append, Lib.byteCells, Nat.add_assoc] using this
       ·exact ((hbe.alloc hbs _).drew).grown hg1 (by simp; omega) (eV hown.out)
      case measure => simp [intOf]; omega
    ·have HK := zh (qT hp)
     have HP := zh hp; clear hp
     go_wp2_with (first
      | (go_at_call 111; refine (tM _ _).mono ?_; rintro e w' ⟨rfl, rfl⟩; rw [HP.out])
      | (at_builtin; refine wpList_append_own _ rfl (.tmp 21) (.tmp 23) 22 rfl base 5 i0 (.int .u8 0) 1 1 Tryz.underlying22 HI0.out HZ0.out HZ1.out HZ2.out rfl (by decide) _ _ _ rfl (hown.out.alloc _) ⟨wr.heap.size, 0, none⟩ 1 1 [.int .u8 (s[k].toNat : Int)] rfl rfl (cell_one_new _ _ _) (by intro u hu; simp at hu; subst hu; rfl) (by unfold maxLen; simp only [List.length_append]; omega) (by simp only [List.length_append]; omega) (by simp; omega) ?_; intro v' w1 hown1 hg1 _; have HO1 := zh hown1; clear hown1))
     go_roundw
     case rel =>
      refine ⟨k + 1, by omega, by go_num, ?_, ?_⟩
      ·rw [HS.out, HK.out]
       have := HO1.out
       show World.ownsRow _ _ _ _ _ _ _
       simpa [Lib.byteCells_append, Lib.byteCells, Nat.add_assoc] using this
      ·exact (hbe.alloc hbs _).grown hg1 (by simp; omega) (eV hown.out)
     case measure => simp [intOf]; omega
   ·obtain rfl : k = s.size := by omega
    go_wp2
    go_ret
    exact ⟨u0, rfl, by rw [HW.out]; exact hown, hbe⟩
structure StrsIn (w : World) (B : Nat) (sp : Option Addr) (n : Nat) (l : List ByteArray) : Prop where
 len : l.length = n
 cells : 0 < n → ∃ b off, sp = some ⟨b, off, none⟩ ∧ b < B ∧ ∀ j (hj : j < l.length), w.cell? ⟨b, off + j, none⟩ = some (.string l[j])
theorem StrsIn.below {w w' : World} {B B' : Nat} {sp : Option Addr} {n : Nat} {l : List ByteArray} (h : StrsIn w B sp n l) (hb : Below B' w w') (hB : B ≤ B') : StrsIn w' B sp n l :=
 ⟨h.len, fun hn => by
  obtain ⟨b, off, e, hlt, hc⟩ := h.cells hn
  exact ⟨b, off, e, hlt, fun j hj => (hb.cell (p := ⟨b, off + j, none⟩) (by show b < B'; omega)).trans (hc j hj)⟩⟩
theorem StrsIn.more {w : World} {B B' : Nat} {sp : Option Addr} {n : Nat} {l : List ByteArray} (h : StrsIn w B sp n l) (hB : B ≤ B') : StrsIn w B' sp n l :=
 ⟨h.len, fun hn => by
  obtain ⟨b, off, e, hlt, hc⟩ := h.cells hn
  exact ⟨b, off, e, by omega, hc⟩⟩
structure Ln where
 sp : Option Addr
 n : Nat
 cap : Nat
 l : List ByteArray
def Ln.val (q : Ln) : Value := .slice q.sp q.n q.cap
structure LinesIn (w : World) (B : Nat) (pa : Option Addr) (np : Nat) (ls : List Ln) : Prop where
 len : ls.length = np
 cells : 0 < np → ∃ pb po, pa = some ⟨pb, po, none⟩ ∧ pb < B ∧ ∀ j (hj : j < ls.length), w.cell? ⟨pb, po + j, none⟩ = some ls[j].val
 each : ∀ q ∈ ls, StrsIn w B q.sp q.n q.l
theorem LinesIn.below {w w' : World} {B B' : Nat} {pa : Option Addr} {np : Nat} {ls : List Ln} (h : LinesIn w B pa np ls) (hb : Below B' w w') (hB : B ≤ B') : LinesIn w' B pa np ls :=
 ⟨h.len, fun hn => by
  obtain ⟨pb, po, e, hlt, hc⟩ := h.cells hn
  exact ⟨pb, po, e, hlt, fun j hj => (hb.cell (p := ⟨pb, po + j, none⟩) (by show pb < B'; omega)).trans (hc j hj)⟩, fun q hq => (h.each q hq).below hb hB⟩
theorem LinesIn.more {w : World} {B B' : Nat} {pa : Option Addr} {np : Nat} {ls : List Ln} (h : LinesIn w B pa np ls) (hB : B ≤ B') : LinesIn w B' pa np ls :=
 ⟨h.len, fun hn => by
  obtain ⟨pb, po, e, hlt, hc⟩ := h.cells hn
  exact ⟨pb, po, e, by omega, hc⟩, fun q hq => (h.each q hq).more hB⟩
def lng (s : ByteArray) : Bool := decide (32768 < s.size)
def cV (l : List ByteArray) : Nat := if l.length = 0 then 1 else if 120 < l.length ∨ l.any lng = true then 3 else 0
def bU : List (List ByteArray) → Nat
 | [] => 0
 | l :: r => if cV l = 0 then bU r else cV l
def chk (ls : List (List ByteArray)) : Nat := if 1000 < ls.length then 3 else bU ls
theorem jR (a b : List (List ByteArray)) (h : bU a = 0) : bU (a ++ b) = bU b := by
 induction a with
 | nil => rfl
 | cons x t ih =>
   unfold bU at h
   by_cases hx : cV x = 0
   ·rw [if_pos hx] at h
    show (if cV x = 0 then bU (t ++ b) else cV x) = bU b
    rw [if_pos hx]; exact ih h
   ·rw [if_neg hx] at h; exact absurd h hx
theorem lR (ls : List (List ByteArray)) (k : Nat) (hk : k < ls.length) (h : bU (ls.take k) = 0) :
 (cV ls[k] = 0 → bU (ls.take (k + 1)) = 0) ∧ (cV ls[k] ≠ 0 → bU ls = cV ls[k]) := by
 constructor
 ·intro hc
  rw [List.take_succ_eq_append_getElem hk, jR _ _ h]
  unfold bU; rw [if_pos hc]; rfl
 ·intro hc
  have e : ls = ls.take k ++ ls[k] :: ls.drop (k + 1) := by
   rw [← List.drop_eq_getElem_cons hk, List.take_append_drop]
  conv => lhs; rw [e]
  rw [jR _ _ h]
  unfold bU; rw [if_neg hc]
theorem uM {ls : List (List ByteArray)} (h : bU ls = 0) : ∀ l ∈ ls, cV l = 0 := by
 induction ls with
 | nil => intro l hl; cases hl
 | cons x t ih =>
   unfold bU at h
   by_cases hx : cV x = 0
   ·rw [if_pos hx] at h
    intro l hl
    rcases List.mem_cons.1 hl with rfl | hl
    ·exact hx
    ·exact ih h l hl
   ·rw [if_neg hx] at h; exact absurd h hx
theorem AE {l : List ByteArray} (h : cV l = 0) : 0 < l.length ∧ l.length ≤ 120 ∧ ∀ s ∈ l, s.size ≤ 32768 := by
 unfold cV at h
 by_cases h0 : l.length = 0
 ·rw [if_pos h0] at h; cases h
 ·rw [if_neg h0] at h
  by_cases h1 : 120 < l.length ∨ l.any lng = true
  ·rw [if_pos h1] at h; cases h
  ·have h2 : ¬ 120 < l.length := fun h => h1 (.inl h)
   refine ⟨by omega, by omega, fun s hs => ?_⟩
   rcases Nat.lt_or_ge 32768 s.size with hlt | hge
   ·exact absurd (.inr (List.any_eq_true.2 ⟨s, hs, by unfold lng; exact decide_eq_true hlt⟩)) h1
   ·exact hge
def body (l : List ByteArray) : List UInt8 := l.flatMap fun s => dS s.data.toList ++ [32]
def pR (l : List ByteArray) : List UInt8 := (body l).dropLast ++ [10]
def iA (ls : List (List ByteArray)) : List UInt8 := ls.flatMap pR
def enc (ls : List (List ByteArray)) : Nat × List UInt8 :=
 if chk ls = 0 then (if 262144 < (iA ls).length then (3, []) else (0, iA ls)) else (chk ls, [])
theorem lW (l : List ByteArray) (k : Nat) (hk : k < l.length) : body (l.take (k + 1)) = body (l.take k) ++ (dS l[k].data.toList ++ [32]) := by
 unfold body; rw [List.take_succ_eq_append_getElem hk, List.flatMap_append]; simp
theorem DM (ls : List (List ByteArray)) (k : Nat) (hk : k < ls.length) : iA (ls.take (k + 1)) = iA (ls.take k) ++ pR ls[k] := by
 unfold iA; rw [List.take_succ_eq_append_getElem hk, List.flatMap_append]; simp
theorem AT (l : List UInt8) : 0 < (dS l).length := by
 unfold dS
 split
 ·simp
 ·rename_i h
  cases l with
  | nil => exact absurd rfl h
  | cons a t =>
    simp only [List.flatMap_cons, List.length_append]
    have : 0 < (pT a).length := by unfold pT; split <;> simp
    omega
theorem GZ {l : List ByteArray} (h : 0 < l.length) : 0 < (body l).length := by
 cases l with
 | nil => cases h
 | cons a t => unfold body; simp only [List.flatMap_cons, List.length_append]; have := AT a.data.toList; omega
theorem uQ {l : List ByteArray} (h : 0 < l.length) : body l = (body l).dropLast ++ [32] := by
 obtain ⟨k, hk⟩ : ∃ k, l.length = k + 1 := ⟨l.length - 1, by omega⟩
 have e := lW l k (by omega)
 rw [List.take_of_length_le (by omega)] at e
 rw [e, ← List.append_assoc, List.dropLast_concat]
theorem DX (l : List ByteArray) (k : Nat) : (body (l.take k)).length ≤ (body l).length := by
 have e : body l = body (l.take k) ++ body (l.drop k) := by
  unfold body; rw [← List.flatMap_append, List.take_append_drop]
 rw [e, List.length_append]; omega
theorem DN (ls : List (List ByteArray)) (k : Nat) : (iA (ls.take k)).length ≤ (iA ls).length := by
 have e : iA ls = iA (ls.take k) ++ iA (ls.drop k) := by
  unfold iA; rw [← List.flatMap_append, List.take_append_drop]
 rw [e, List.length_append]; omega
theorem mY {l : List ByteArray} (h : 0 < l.length) : (pR l).length = (body l).length := by
 unfold pR; rw [uQ h]; simp
theorem FI {xs bs : List UInt8} (h : 0 < bs.length) (c : UInt8) : (xs ++ bs).set (xs.length + bs.length - 1) c = xs ++ (bs.dropLast ++ [c]) := by
 rw [List.set_append_right _ _ (by omega)]
 congr 1
 have e : xs.length + bs.length - 1 - xs.length = bs.dropLast.length := by rw [List.length_dropLast]; omega
 obtain ⟨ys, y, rfl⟩ : ∃ ys y, bs = ys ++ [y] := ⟨bs.dropLast, bs.getLast (List.ne_nil_of_length_pos h), (List.dropLast_concat_getLast _).symm⟩
 rw [e, List.dropLast_concat, List.set_append_right _ _ (Nat.le_refl _), Nat.sub_self]
 rfl
def cX (ls : List Ln) : List (List ByteArray) := ls.map Ln.l
theorem dC (ls : List Ln) : (cX ls).length = ls.length := by simp [cX]
theorem vC (ls : List Ln) (k : Nat) (hk : k < ls.length) : (cX ls)[k]'(by rw [dC]; exact hk) = ls[k].l := by simp [cX]
def OY (l : List ByteArray) (w : World) (e : Ending) (w' : World) : Prop := ∃ i : Int, e = .returned (.int .i64 i) ∧ Hid (decide (0 ≤ i) = l.any lng) ∧ w = w'
theorem lX (l : List ByteArray) (k : Nat) (hk : k < l.length) (h : (l.take k).any lng = false) (hc : lng l[k] = false) : (l.take (k + 1)).any lng = false := by
 rw [List.take_succ_eq_append_getElem hk, List.any_append, h]; simp [hc]
theorem JJ (l : List ByteArray) (k : Nat) (hk : k < l.length) (hc : lng l[k] = true) : l.any lng = true := List.any_eq_true.2 ⟨l[k], List.getElem_mem _, hc⟩
theorem rV (sp : Option Addr) (n cap : Nat) (l : List ByteArray) (w : World) (hl : StrsIn w w.heap.size sp n l) (hmax : n ≤ 9223372036854775807) :
 Calls Tryz.prog 150 #[.slice sp n cap, .func (.func 110) #[] #[]] w (OY l w) := by
 have HL := zh hl; clear hl
 go_enter Tryz.func150, Tryz.ntmps150
 go_wp2_with fail
 go_loop [8] (fun i => ∃ k : Nat, k ≤ n ∧ i = .int .i64 k ∧ Hid ((l.take k).any lng = false)) (fun i => n - (intOf i).toNat)
 case atStart => exact ⟨0, by omega, rfl, by show _ = false; simp⟩
 case round =>
  obtain ⟨k, hk, rfl, HA⟩ := hrel
  by_cases hlt : k < n
  ·obtain ⟨b, off, rfl, hb, hcell⟩ := HL.out.cells (by omega)
   have hk2 : k < l.length := by have := HL.out.len; omega
   have ck := hcell k hk2
   clear hcell
   have HN := zh (lX l k hk2 HA.out)
   have HY := zh (JJ l k hk2)
   have HD := zh (show lng l[k] = decide (32768 < (l[k]).size) from rfl)
   generalize l[k] = s at *
   cases hd : decide (32768 < s.size)
   ·rw [hd] at HD
    have HD2 := zh hd; clear hd
    go_wp2_with (go_at_call 110; refine (oJ _ _).mono ?_; rintro e w' ⟨rfl, rfl⟩; rw [HD2.out])
    go_round
    case rel => exact ⟨k + 1, by omega, by go_num, HN.out HD.out⟩
    case measure => simp [intOf]; omega
   ·rw [hd] at HD
    have HD2 := zh hd; clear hd
    go_wp2_with (go_at_call 110; refine (oJ _ _).mono ?_; rintro e w' ⟨rfl, rfl⟩; rw [HD2.out])
    go_ret
    exact ⟨(k : Int), rfl, by show _ = _; rw [HY.out HD.out]; simp, rfl⟩
  ·obtain rfl : k = n := by omega
   go_wp2
   go_ret
   exact ⟨-1, rfl, by show _ = _; rw [List.take_of_length_le (by rw [HL.out.len]; exact Nat.le_refl _)] at HA; rw [HA.out]; rfl, rfl⟩
theorem jI (sp : Option Addr) (n cap : Nat) (l : List ByteArray) (w : World) (hl : StrsIn w w.heap.size sp n l) (hmax : n ≤ 9223372036854775807) :
 Calls Tryz.prog 109 #[.slice sp n cap, .func (.func 110) #[] #[]] w fun e w' => e = .returned (.bool (l.any lng)) ∧ w = w' := by
 have HC := zh (rV sp n cap l w hl hmax)
 clear hl
 go_enter Tryz.func109, Tryz.ntmps109
 go_wp2_with (go_at_call 150; refine HC.out.mono ?_; rintro e w' ⟨i, rfl, hi, rfl⟩)
 go_ret
 exact ⟨bS hi.out, rfl⟩
theorem GR {ls : List Ln} (h : 1000 < ls.length) : chk (cX ls) = 3 := by unfold chk; rw [if_pos (by rw [dC]; exact h)]
theorem LZ {ls : List Ln} (h : ¬ 1000 < ls.length) : chk (cX ls) = bU (cX ls) := by unfold chk; rw [if_neg (by rw [dC]; exact h)]
theorem jT {l : List ByteArray} (h : l.length = 0) : cV l = 1 := by unfold cV; rw [if_pos h]
theorem jU {l : List ByteArray} (h : 120 < l.length) : cV l = 3 := by unfold cV; rw [if_neg (by omega), if_pos (.inl h)]
theorem nC {l : List ByteArray} (h0 : l.length ≠ 0) (h : l.any lng = true) : cV l = 3 := by unfold cV; rw [if_neg h0, if_pos (.inr h)]
theorem nD {l : List ByteArray} (h0 : l.length ≠ 0) (h1 : ¬ 120 < l.length) (h : l.any lng = false) : cV l = 0 := by
 unfold cV; rw [if_neg h0, if_neg (by rw [h]; simp; omega)]
theorem pV (pa : Option Addr) (np ncap : Nat) (ls : List Ln) (w : World) (hp : LinesIn w w.heap.size pa np ls) (hmax : np ≤ 9223372036854775807) (hmax2 : ∀ q ∈ ls, q.n ≤ 9223372036854775807) :
 Calls Tryz.prog 74 #[.slice pa np ncap] w fun e w' => e = .returned (.int .i64 (chk (cX ls))) ∧ w = w' := by
 have HP := zh hp; have HM := zh hmax2; clear hp hmax2
 have nO := zh HP.out.len
 by_cases hbig : 1000 < np
 ·have HC := zh (GR (ls := ls) (by rw [nO.out]; exact hbig))
  generalize chk (cX ls) = r at *
  go_enter Tryz.func74, Tryz.ntmps74
  go_wp2
  go_ret
  exact ⟨oR (by rw [HC.out]; rfl), rfl⟩
 ·have HC := zh (LZ (ls := ls) (by rw [nO.out]; exact hbig))
  generalize chk (cX ls) = r at *
  go_enter Tryz.func74, Tryz.ntmps74
  go_wp2_with fail
  go_loop [10] (fun i => ∃ k : Nat, k ≤ np ∧ i = .int .i64 k ∧ Hid (bU ((cX ls).take k) = 0)) (fun i => np - (intOf i).toNat)
  case atStart => exact ⟨0, by omega, rfl, by show _ = _; simp [bU]⟩
  case round =>
   obtain ⟨k, hk, rfl, HA⟩ := hrel
   by_cases hlt : k < np
   ·have hk2 : k < ls.length := by rw [nO.out]; exact hlt
    obtain ⟨pb, po, rfl, hpb, hcell⟩ := HP.out.cells (by omega)
    have ck : w.cell? ⟨pb, po + k, none⟩ = some (.slice ls[k].sp ls[k].n ls[k].cap) := hcell k hk2
    have HE := zh (HP.out.each _ (List.getElem_mem hk2))
    have hmx := HM.out _ (List.getElem_mem hk2)
    have hfb := lR (cX ls) k (by rw [dC]; exact hk2) HA.out
    rw [vC ls k hk2] at hfb
    have HF := zh hfb
    have hl := HE.out.len
    clear hcell hfb
    generalize ls[k].sp = sp at *
    generalize ls[k].n = n at *
    generalize ls[k].cap = cap at *
    generalize ls[k].l = l at *
    have HLL := zh hl; clear hl
    by_cases h0 : n = 0
    ·subst h0
     have HK := zh (jT HLL.out)
     go_wp2_with fail
     go_ret
     exact ⟨oR (by rw [HC.out, HF.out.2 (by rw [HK.out]; decide), HK.out]; rfl), rfl⟩
    ·have h0b : ((n : Int) == 0) = false := beq_eq_false_iff_ne.2 (by omega)
     by_cases h1 : 120 < n
     ·have HK := zh (jU (l := l) (by rw [HLL.out]; exact h1))
      clear h0
      go_wp2_with fail
      go_ret
      exact ⟨oR (by rw [HC.out, HF.out.2 (by rw [HK.out]; decide), HK.out]; rfl), rfl⟩
     ·cases ha : l.any lng
      ·have HK := zh (nD (l := l) (by rw [HLL.out]; exact h0) (by rw [HLL.out]; exact h1) ha)
       have HA2 := zh ha; clear ha h0
       go_wp2_with (go_at_call 109; refine (jI _ _ _ l _ HE.out hmx).mono ?_; rintro e w' ⟨rfl, rfl⟩; rw [HA2.out])
       go_round
       case rel => exact ⟨k + 1, by omega, by go_num, HF.out.1 HK.out⟩
       case measure => simp [intOf]; omega
      ·have HK := zh (nC (l := l) (by rw [HLL.out]; exact h0) ha)
       have HA2 := zh ha; clear ha h0
       go_wp2_with (go_at_call 109; refine (jI _ _ _ l _ HE.out hmx).mono ?_; rintro e w' ⟨rfl, rfl⟩; rw [HA2.out])
       go_ret
       exact ⟨oR (by rw [HC.out, HF.out.2 (by rw [HK.out]; decide), HK.out]; rfl), rfl⟩
   ·obtain rfl : k = np := by omega
    go_wp2
    go_ret
    exact ⟨oR (by rw [HC.out]; rw [List.take_of_length_le (by rw [dC, nO.out]; exact Nat.le_refl _)] at HA; rw [HA.out]; rfl), rfl⟩
def JS (w : World) (ls : List (List ByteArray)) (e : Ending) (w' : World) : Prop :=
 ∃ v, e = .returned (.tuple #[v, .int .i64 ((enc ls).1 : Nat)]) ∧ Hid (w'.ownsRow w.heap.size 5 1 v (enc ls).2.length (Lib.byteCells (enc ls).2)) ∧ Below w.heap.size w w'
theorem jO {w : World} {base e size : Nat} {v : Value} {n : Nat} {xs : List Value} (h : w.ownsRow base e size v n xs) : ∃ sp cap, v = .slice sp n cap := by
 obtain ⟨_, ⟨rfl, rfl⟩ | ⟨g, cap, cur, rfl, _⟩⟩ := h
 ·exact ⟨none, 0, rfl⟩
 ·exact ⟨_, cap, rfl⟩
theorem wordsOf_get? (ls : List Ln) : ∀ (k : Nat) (hk : k < ls.length), (cX ls)[k]? = some ls[k].l := fun k hk => by simp [cX, List.getElem?_eq_getElem hk]
theorem uO {wl : List (List ByteArray)} {k : Nat} {l : List ByteArray} (h : wl[k]? = some l) : iA (wl.take (k + 1)) = iA (wl.take k) ++ pR l := by
 obtain ⟨hk, rfl⟩ := List.getElem?_eq_some_iff.1 h
 exact DM wl k hk
theorem OP {wl : List (List ByteArray)} (h : chk wl = 0) : wl.length ≤ 1000 ∧ ∀ l ∈ wl, cV l = 0 := by
 unfold chk at h
 by_cases h1 : 1000 < wl.length
 ·rw [if_pos h1] at h; cases h
 ·rw [if_neg h1] at h; exact ⟨by omega, uM h⟩
theorem GS {wl : List (List ByteArray)} {k : Nat} {l : List ByteArray} (h : chk wl = 0) (hk : wl[k]? = some l) : 0 < l.length ∧ l.length ≤ 120 ∧ ∀ s ∈ l, s.size ≤ 32768 :=
 AE ((OP h).2 l (List.mem_of_getElem? hk))
theorem mP {ls : List (List ByteArray)} (h : chk ls ≠ 0) : enc ls = (chk ls, []) := by unfold enc; rw [if_neg h]
theorem rY {ls : List (List ByteArray)} (h : chk ls = 0) (h2 : 262144 < (iA ls).length) : enc ls = (3, []) := by unfold enc; rw [if_pos h, if_pos h2]
theorem rZ {ls : List (List ByteArray)} (h : chk ls = 0) (h2 : ¬ 262144 < (iA ls).length) : enc ls = (0, iA ls) := by unfold enc; rw [if_pos h, if_neg h2]
theorem AK (pa : Option Addr) (np ncap : Nat) (ls : List Ln) (w : World) (hp : LinesIn w w.heap.size pa np ls) (hmax : np ≤ 9223372036854775807) (hmax2 : ∀ q ∈ ls, q.n ≤ 9223372036854775807) :
 Calls Tryz.prog 40 #[.slice pa np ncap] w (JS w (cX ls)) := by
 have HCK := zh (pV pa np ncap ls w hp hmax hmax2)
 have HP := zh hp; have HM := zh hmax2; clear hp hmax2
 obtain ⟨i0, hi0, hz0, hz1, hz2⟩ := info_parts Tryz.info5
 have HI0 := zh hi0; have HZ0 := zh hz0; have HZ1 := zh hz1; have HZ2 := zh hz2
 clear hi0 hz0 hz1 hz2
 by_cases hc : chk (cX ls) = 0
 ·have HE1 := zh (rY hc)
  have HE2 := zh (rZ hc)
  rw [hc] at HCK
  have HC := zh hc; clear hc
  have nO := zh HP.out.len
  have HL2 := zh (dC ls)
  have HGET := zh (wordsOf_get? ls)
  generalize hwl : cX ls = wl at *
  clear hwl
  go_enter Tryz.func40, Tryz.ntmps40
  go_wp2_with fail
  go_step3
  go_wp2_with (go_at_call 74; refine HCK.out.mono ?_; rintro e w' ⟨rfl, rfl⟩)
  go_step3
  go_wp2_with fail
  go_loopg [5, 17] np (fun g b i wx => ∃ k : Nat, k + g = np ∧ i = .int .i64 k ∧ ∃ sp cap, b = .slice sp (iA (wl.take k)).length cap ∧ Hid (wx.ownsRow w.heap.size 5 1 (.slice sp (iA (wl.take k)).length cap) (iA (wl.take k)).length (Lib.byteCells (iA (wl.take k)))) ∧ (iA (wl.take k)).length ≤ 262144 ∧ Below w.heap.size w wx)
  case atStart => exact ⟨0, by omega, rfl, none, 0, by simp [iA], by show World.ownsRow _ _ _ _ _ _ _; simp [iA]; exact World.ownsRow_nil _ _ _ _, by simp [iA], Below.refl _ _⟩
  case round =>
   obtain ⟨k, hg, rfl, sp, cap, rfl, hown, hle, hbe⟩ := hrel
   by_cases hlt : k < np
   ·have hk2 : k < ls.length := by have := nO.out; omega
    obtain ⟨pb, po, rfl, hpb, hcell⟩ := HP.out.cells (by omega)
    have ck : wr.cell? ⟨pb, po + k, none⟩ = some (.slice ls[k].sp ls[k].n ls[k].cap) := (hbe.cell (p := ⟨pb, po + k, none⟩) hpb).trans (hcell k hk2)
    have HE := zh (HP.out.each _ (List.getElem_mem hk2))
    have HLK := zh (HGET.out k hk2)
    have hmx := HM.out _ (List.getElem_mem hk2)
    clear hcell
    generalize ls[k].sp = lsp at *
    generalize ls[k].n = n at *
    generalize ls[k].cap = lcap at *
    generalize ls[k].l = l at *
    obtain ⟨hpos, h120, hsz⟩ := GS HC.out HLK.out
    have HSZ := zh hsz; clear hsz
    obtain rfl := HE.out.len
    have HNX := zh (uO HLK.out)
    have HMO := zh (DN wl (k + 1))
    generalize iA (wl.take k) = X at *
    go_wp2_with fail
    go_loopg [5, 23] l.length (fun g b i wy => ∃ j : Nat, j + g = l.length ∧ i = .int .i64 j ∧ ∃ sp cap, b = .slice sp (X ++ body (l.take j)).length cap ∧ Hid (wy.ownsRow w.heap.size 5 1 (.slice sp (X ++ body (l.take j)).length cap) (X ++ body (l.take j)).length (Lib.byteCells (X ++ body (l.take j)))) ∧ (X ++ body (l.take j)).length ≤ 262144 ∧ Below w.heap.size w wy)
    case atStart => exact ⟨0, by omega, rfl, sp, cap, by simp [body], by show World.ownsRow _ _ _ _ _ _ _; simpa [body] using hown.out, by simpa [body] using hle, hbe⟩
    case round =>
     clear hown hbe ck
     obtain ⟨j, hg2, rfl, sp2, cap2, rfl, hown, hle2, hbe⟩ := hrel
     have hbs := hbe.size
     by_cases hj : j < l.length
     ·obtain ⟨sb, so, rfl, hsb, hsc⟩ := HE.out.cells (by omega)
      have cw : wr.cell? ⟨sb, so + j, none⟩ = some (.string l[j]) := (hbe.cell (p := ⟨sb, so + j, none⟩) hsb).trans (hsc j hj)
      have hs1 : l[j].size ≤ 32768 := HSZ.out _ (List.getElem_mem hj)
      have HB := zh (lW l j hj)
      have HBM := zh (DX l (j + 1))
      clear hsc
      generalize l[j] = s at *
      have hw1 := nQ s.data.toList
      rw [← Lib.size_eq] at hw1
      have HA : Hid (X ++ body (l.take (j + 1)) = (X ++ body (l.take j)) ++ (dS s.data.toList ++ [32])) := by show _ = _; rw [HB.out, List.append_assoc]
      generalize X ++ body (l.take j) = Y at *
      by_cases hbig : 262144 < (Y ++ (dS s.data.toList ++ [32])).length
      ·simp only [List.length_append, List.length_cons, List.length_nil] at hbig
       go_wp2_with fail
       refine (kR w.heap.size _ Y s wr hown.out hbs (by omega)).mono ?_
       rintro e w2 ⟨v2, rfl, hown2, hbe2⟩
       have hs2 := hbe2.size
       have hzb : (262144 : Int) ≤ (((Y ++ dS s.data.toList).length : Nat) : Int) := by rw [List.length_append]; omega
       have hzc : (((Y ++ dS s.data.toList).length : Nat) : Int) ≤ 1048576 := by rw [List.length_append]; omega
       have HZ : Hid (Y ++ (dS s.data.toList ++ [32]) = (Y ++ dS s.data.toList) ++ [32]) := by show _ = _; rw [List.append_assoc]
       generalize Y ++ dS s.data.toList = Z at *
       clear hbig hw1 hle2
       go_upto_region 12 with (at_builtin; refine wpList_append_own _ rfl (.tmp 29) (.tmp 30) 22 rfl w.heap.size 5 i0 (.int .u8 0) 1 1 Tryz.underlying22 HI0.out HZ0.out HZ1.out HZ2.out rfl (by decide) _ _ _ rfl (hown2.out.alloc _) ⟨w2.heap.size, 0, none⟩ 1 1 [.int .u8 32] rfl rfl (cell_one_new _ _ _) (by intro u hu; simp at hu; subst hu; rfl) (by unfold maxLen; omega) (by omega) (by simp; omega) ?_; intro v3 w3 hown3 hg3 _; obtain ⟨sp3, cap3, rfl⟩ := jO hown3; have HO3 := zh hown3; clear hown3)
       have hd1 : decide ((Z.length : Int) + 1 > 262144) = true := decide_eq_true (by omega)
       have hd2 : decide (262144 < (Z.length : Int) + 1) = true := decide_eq_true (by omega)
       have hd3 : decide (262144 ≤ (Z.length : Int)) = true := decide_eq_true (by omega)
       go_wp2
       rw [Exit.noGoto_ret]
       go_ret2
       have hfin : enc wl = (3, []) := by
        refine HE1.out ?_
        have h1 := HMO.out
        rw [HNX.out, List.length_append, mY hpos] at h1
        have h2 := congrArg List.length HA.out
        rw [HZ.out] at h2
        simp only [List.length_append, List.length_cons, List.length_nil] at h2
        have h3 := HBM.out
        omega
       exact ⟨.slice none 0 0, by rw [hfin]; rfl, by rw [hfin]; exact World.ownsRow_nil _ _ _ _, (hbe.trans hbe2).alloc (by omega) _ |>.grown hg3 (by simp; omega) (eV hown2.out)⟩
      ·simp only [List.length_append, List.length_cons, List.length_nil] at hbig
       go_wp2_with fail
       refine (kR w.heap.size _ Y s wr hown.out hbs (by omega)).mono ?_
       rintro e w2 ⟨v2, rfl, hown2, hbe2⟩
       have hs2 := hbe2.size
       have hzb : (((Y ++ dS s.data.toList).length : Nat) : Int) ≤ 262143 := by rw [List.length_append]; omega
       have HZ : Hid (Y ++ (dS s.data.toList ++ [32]) = (Y ++ dS s.data.toList) ++ [32]) := by show _ = _; rw [List.append_assoc]
       generalize Y ++ dS s.data.toList = Z at *
       clear hbig hw1 hle2
       go_upto_region 12 with (at_builtin; refine wpList_append_own _ rfl (.tmp 29) (.tmp 30) 22 rfl w.heap.size 5 i0 (.int .u8 0) 1 1 Tryz.underlying22 HI0.out HZ0.out HZ1.out HZ2.out rfl (by decide) _ _ _ rfl (hown2.out.alloc _) ⟨w2.heap.size, 0, none⟩ 1 1 [.int .u8 32] rfl rfl (cell_one_new _ _ _) (by intro u hu; simp at hu; subst hu; rfl) (by unfold maxLen; omega) (by omega) (by simp; omega) ?_; intro v3 w3 hown3 hg3 _; obtain ⟨sp3, cap3, rfl⟩ := jO hown3; have HO3 := zh hown3; clear hown3)
       have hd1 : decide ((Z.length : Int) + 1 > 262144) = false := decide_eq_false (by omega)
       have hd2 : decide (262144 < (Z.length : Int) + 1) = false := decide_eq_false (by omega)
       have hd3 : decide (262144 ≤ (Z.length : Int)) = false := decide_eq_false (by omega)
       go_wp2
       go_roundg (l.length - (j + 1))
       case measure => omega
       case rel =>
        refine ⟨j + 1, by omega, by go_num, sp3, cap3, ?_, ?_, ?_, ?_⟩
        ·rw [HA.out, HZ.out]; simp
        ·rw [HA.out, HZ.out]
         have := HO3.out
         show World.ownsRow _ _ _ _ _ _ _
         simpa [Lib.byteCells_append, Lib.byteCells, Nat.add_assoc] using this
        ·rw [HA.out, HZ.out]; simp only [List.length_append, List.length_cons, List.length_nil]; omega
        ·exact (hbe.trans hbe2).alloc (by omega) _ |>.grown hg3 (by simp; omega) (eV hown2.out)
     ·obtain rfl : j = l.length := by omega
      rw [List.take_of_length_le (Nat.le_refl _)] at hown hle2
      rw [List.take_of_length_le (Nat.le_refl _)]
      have hbp := GZ hpos
      have hll := mY hpos
      have HSL := zh (FI (xs := X) hbp 10)
      have HLL : Hid (pR l = (body l).dropLast ++ [10]) := rfl
      have hyl : (X ++ body l).length = X.length + (body l).length := List.length_append
      obtain ⟨m, hm⟩ : ∃ m, (X ++ body l).length = m + 1 := ⟨X.length + (body l).length - 1, by omega⟩
      have HLN : Hid ((X ++ pR l).length = m + 1) := by show _ = _; rw [List.length_append, hll]; omega
      have HM1 : Hid (X.length + (body l).length - 1 = m) := by show _ = _; omega
      rw [hm] at hown hle2
      rw [hm]
      generalize X ++ body l = Y at *
      rcases nE (l := Y) (by rw [hm]; exact hown.out) with ⟨_, hnil⟩ | ⟨g, capg, hv, hgB, _, hcg⟩
      ·rw [hnil] at hm; simp at hm
      ·have hsp : sp2 = some ⟨g, 0, none⟩ := by injection hv
       subst hsp
       obtain ⟨ym, hcm⟩ : ∃ z : Int, wr.cell? ⟨g, m, none⟩ = some (.int .u8 z) := ⟨_, hcg m (by omega)⟩
       have hfm := hown.out.frozenAt m
       have HST := zh (hown.out.stored m (.int .u8 10))
       clear hv hcg hm hyl hll hbp
       go_wp2
       go_roundg (np - (k + 1))
       case measure => omega
       case rel =>
        refine ⟨k + 1, by omega, by go_num, some ⟨g, 0, none⟩, cap2, ?_, ?_, ?_, ?_⟩
        ·rw [HNX.out, HLN.out]
        ·rw [HNX.out, HLN.out]
         have e : (Lib.byteCells Y).set m (.int .u8 10) = Lib.byteCells (X ++ pR l) := by
          rw [HLL.out, ← HSL.out, HM1.out]; simp [Lib.byteCells]
         have := HST.out.1
         rw [e] at this
         exact this
        ·rw [HNX.out, HLN.out]; exact hle2
        ·exact hbe.setCell hgB _
   ·obtain rfl : k = np := by omega
    have hall : iA (wl.take k) = iA wl := by rw [List.take_of_length_le (by rw [HL2.out, nO.out]; exact Nat.le_refl _)]
    rw [hall] at hown hle
    rw [hall]
    have HE := zh (HE2.out (by omega))
    clear hall
    generalize iA wl = X at *
    have hd1 : decide ((X.length : Int) > 262144) = false := decide_eq_false (by omega)
    have hd2 : decide (262144 < (X.length : Int)) = false := decide_eq_false (by omega)
    go_wp2_with fail
    rw [Exit.noGoto_ret]
    go_ret2
    exact ⟨_, by rw [HE.out]; rfl, by rw [HE.out]; exact hown, hbe⟩
 ·have HE := zh (mP hc)
  have hc2 : (((chk (cX ls) : Nat) : Int) != 0) = true := by rw [bne_iff_ne]; omega
  generalize cX ls = wl at *
  generalize chk wl = r at *
  have HC := zh hc; clear hc
  go_enter Tryz.func40, Tryz.ntmps40
  go_wp2_with (go_at_call 74; refine HCK.out.mono ?_; rintro e w' ⟨rfl, rfl⟩)
  go_step3
  go_wp2_with (go_at_call 74; refine HCK.out.mono ?_; rintro e w' ⟨rfl, rfl⟩)
  rw [Exit.noGoto_ret]
  go_ret2
  exact ⟨.slice none 0 0, by rw [HE.out]; rfl, by rw [HE.out]; exact World.ownsRow_nil _ _ _ _, Below.refl _ _⟩
theorem mX (c : Int) (w : World) :
 Calls Tryz.prog 112 #[.int .u8 c] w fun e w' => e = .returned (.bool (zR c)) ∧ w = w' := by
 by_cases h1 : 33 ≤ c
 ·by_cases h2 : c ≤ 125
  ·go_enter Tryz.func112, Tryz.ntmps112
   go_wp2
   go_ret
   exact ⟨bS (by unfold zR; rw [decide_eq_true h1, decide_eq_true h2]; rfl), rfl⟩
  ·go_enter Tryz.func112, Tryz.ntmps112
   go_wp2
   go_ret
   exact ⟨bS (by unfold zR; rw [decide_eq_false (p := c ≤ _) (by omega)]; simp), rfl⟩
 ·go_enter Tryz.func112, Tryz.ntmps112
  go_wp2
  go_ret
  exact ⟨bS (by unfold zR; rw [decide_eq_false (p := _ ≤ c) (by omega)]; simp), rfl⟩
theorem oS (s : ByteArray) (w : World) (hlen : 3 * s.size + 1 ≤ 1099511627776) :
 Calls Tryz.prog 77 #[.string s] w fun e w' => e = .returned (.string ⟨(dS s.data.toList).toArray⟩) ∧ Below w.heap.size w w' := by
 obtain ⟨i0, hi0, hz0, hz1, hz2⟩ := info_parts Tryz.info5
 have HI0 := zh hi0; have HZ0 := zh hz0; have HZ1 := zh hz1; have HZ2 := zh hz2
 clear hi0 hz0 hz1 hz2
 by_cases h0 : s.size = 0
 ·have e0 : s.toList = [] := by rw [Lib.toList_data]; exact List.eq_nil_of_length_eq_zero (by rw [← Lib.size_eq]; exact h0)
  have HW := zh (show dS s.data.toList = [126] by rw [← Lib.toList_data, e0]; rfl)
  generalize dS s.data.toList = wl at *
  clear h0
  go_enter Tryz.func77, Tryz.ntmps77
  go_wp2_with fail
  go_ret
  exact ⟨by rw [HW.out]; rfl, Below.refl _ _⟩
 ·have e0 : s.toList.isEmpty = false := by
   rw [Lib.toList_data, List.isEmpty_eq_false_iff]
   intro h; rw [Lib.size_eq, h] at h0; simp at h0
  have HW := zh (show dS s.data.toList = (s.data.toList.take s.size).flatMap pT by
   unfold dS; rw [lD, if_neg (by intro h; rw [Lib.size_eq, h] at h0; simp at h0)])
  generalize dS s.data.toList = wl at *
  clear h0
  go_enter Tryz.func77, Tryz.ntmps77
  go_wp2_with fail
  go_loopw [4, 5] (fun b i wr => ∃ k : Nat, k ≤ s.size ∧ i = .int .i64 k ∧ Hid (wr.ownsRow w.heap.size 5 1 b ((s.data.toList.take k).flatMap pT).length (Lib.byteCells ((s.data.toList.take k).flatMap pT))) ∧ Below w.heap.size w wr) (fun _ i _ => s.size - (intOf i).toNat)
  case atStart => exact ⟨0, by omega, rfl, World.ownsRow_nil _ _ _ _, Below.refl _ _⟩
  case round =>
   obtain ⟨k, hk, rfl, hown, hbe⟩ := hrel
   by_cases hlt : k < s.size
   ·have HS := zh (uI s k hlt)
    have hle := wN (s.data.toList.take k)
    have hle2 : (s.data.toList.take k).length ≤ k := List.length_take_le _ _
    have hbs := hbe.size
    generalize (s.data.toList.take k).flatMap pT = fl at *
    cases hp : zR (s[k].toNat)
    ·have HK := zh (yD hp)
     have HP := zh hp; clear hp
     have hc256 : s[k].toNat < 256 := UInt8.toNat_lt _
     have hx1 := lO (s[k].toNat / 16) (by omega)
     have hx2 := lO (s[k].toNat % 16) (by omega)
     rw [show ((s[k].toNat / 16 : Nat) : Int) = (s[k].toNat : Int) / 16 by omega] at hx1
     rw [show ((s[k].toNat % 16 : Nat) : Int) = (s[k].toNat : Int) % 16 by omega] at hx2
     have hand := OU s[k]
     have hk0 : (0 : Int) ≤ (k : Int) := by omega
     have hk1 : (k : Int) < (s.size : Int) := by omega
     go_wp2_with (go_at_call 112; refine (mX _ _).mono ?_; rintro e w' ⟨rfl, rfl⟩; rw [HP.out])
     go_region_held3 (fun _ => True) (trivial) ((refine jN rfl (.tmp 24) (.tmp 37) 22 (by rfl) w.heap.size 5 i0 (.int .u8 0) 1 1 Tryz.underlying22 HI0.out HZ0.out HZ1.out HZ2.out rfl (by decide) _ _ _ (by rfl) (by exact (hown.out.alloc _).drew) ⟨wr.heap.size, 0, none⟩ 3 3 (Lib.byteCells [37, GF (s[k].toNat / 16), GF (s[k].toNat % 16)]) (by rfl) (by rfl) (by exact qZ _ _ _) (Lib.byteCells_one _) (by unfold maxLen; omega) (by omega) (by simp; omega) ?_; intro v' w1 hown1 hg1 _; have HO1 := zh hown1; clear hown1))
     all_goals
      go_wp2
      go_roundw
      case rel =>
       refine ⟨k + 1, by omega, by go_num, ?_, ?_⟩
       ·rw [HS.out, HK.out]
        have := HO1.out
        show World.ownsRow _ _ _ _ _ _ _
        simpa [Lib.byteCells_append, Lib.byteCells, Nat.add_assoc] using this
       ·exact ((hbe.alloc hbs _).drew).grown hg1 (by simp; omega) (eV hown.out)
      case measure => simp [intOf]; omega
    ·have HK := zh (qT hp)
     have HP := zh hp; clear hp
     go_wp2_with (first
      | (go_at_call 112; refine (mX _ _).mono ?_; rintro e w' ⟨rfl, rfl⟩; rw [HP.out])
      | (at_builtin; refine wpList_append_own _ rfl (.tmp 18) (.tmp 22) 22 rfl w.heap.size 5 i0 (.int .u8 0) 1 1 Tryz.underlying22 HI0.out HZ0.out HZ1.out HZ2.out rfl (by decide) _ _ _ rfl (hown.out.alloc _) ⟨wr.heap.size, 0, none⟩ 1 1 [.int .u8 (s[k].toNat : Int)] rfl rfl (cell_one_new _ _ _) (by intro u hu; simp at hu; subst hu; rfl) (by unfold maxLen; omega) (by omega) (by simp; omega) ?_; intro v' w1 hown1 hg1 _; have HO1 := zh hown1; clear hown1))
     go_roundw
     case rel =>
      refine ⟨k + 1, by omega, by go_num, ?_, ?_⟩
      ·rw [HS.out, HK.out]
       have := HO1.out
       show World.ownsRow _ _ _ _ _ _ _
       simpa [Lib.byteCells_append, Lib.byteCells, Nat.add_assoc] using this
      ·exact (hbe.alloc hbs _).grown hg1 (by simp; omega) (eV hown.out)
     case measure => simp [intOf]; omega
   ·obtain rfl : k = s.size := by omega
    have hcv := pQ hown.out
    rw [← HW.out] at hcv
    go_wp2
    go_ret
    exact ⟨rfl, hbe⟩
def jn (l : List ByteArray) (j : Nat) : List UInt8 := (body (l.take j)).dropLast
theorem wG (l : List ByteArray) : jn l 0 = [] := rfl
theorem GA {l : List ByteArray} (h : 0 < l.length) : jn l 1 = dS l[0].data.toList := by
 unfold jn; rw [lW l 0 h]; simp [body]
theorem LF {l : List ByteArray} {j : Nat} (h0 : j ≠ 0) (hj : j < l.length) : jn l (j + 1) = (jn l j ++ [32]) ++ dS l[j].data.toList := by
 have hp : 0 < (l.take j).length := by rw [List.length_take]; omega
 unfold jn
 rw [lW l j hj, ← uQ hp, ← List.append_assoc, List.dropLast_concat]
theorem ME {l : List ByteArray} (hs : ∀ s ∈ l, s.size ≤ 32768) : (body l).length ≤ 98306 * l.length := by
 induction l with
 | nil => simp [body]
 | cons a t ih =>
   have h1 := ih (fun s hs' => hs s (List.mem_cons_of_mem _ hs'))
   have h2 := hs a (List.mem_cons_self ..)
   have h3 := nQ a.data.toList
   rw [← Lib.size_eq] at h3
   unfold body at h1 ⊢
   simp only [List.flatMap_cons, List.length_append, List.length_cons, List.length_nil]
   omega
theorem jn_le (l : List ByteArray) (j : Nat) (hs : ∀ s ∈ l.take j, s.size ≤ 32768) : (jn l j).length ≤ 98306 * j := by
 have h1 := ME hs
 have h2 : (l.take j).length ≤ j := List.length_take_le _ _
 unfold jn; rw [List.length_dropLast]; omega
theorem KZ {l : List ByteArray} (h : l.any lng = false) : ∀ s ∈ l, s.size ≤ 32768 := fun s hs => by
 rcases Nat.lt_or_ge 32768 s.size with hlt | hge
 ·have : l.any lng = true := List.any_eq_true.2 ⟨s, hs, by unfold lng; exact decide_eq_true hlt⟩
  rw [h] at this; cases this
 ·exact hge
theorem FY {l : List ByteArray} : pR l = jn l l.length ++ [10] := by
 unfold pR jn; rw [List.take_of_length_le (Nat.le_refl _)]
theorem kG {wl : List (List ByteArray)} {r : Nat} (h : wl.length ≤ 1000) (hb : bU wl = r) : chk wl = r := by unfold chk; rw [if_neg (by omega), hb]
theorem rX {wl : List (List ByteArray)} {k : Nat} {l : List ByteArray} (hk : wl[k]? = some l) (h : bU (wl.take k) = 0) :
 (cV l = 0 → bU (wl.take (k + 1)) = 0) ∧ (cV l ≠ 0 → bU wl = cV l) := by
 obtain ⟨hlt, rfl⟩ := List.getElem?_eq_some_iff.1 hk
 exact lR wl k hlt h
theorem pA {w w' : World} {row : Option Nat} (h : Below w.heap.size w w') : w.grownBy w' row := ⟨h.os, h.tape, h.output, h.size, fun k hk _ => h.block k hk⟩
theorem tP {w w' : World} {base e size : Nat} {v : Value} {n : Nat} {xs : List Value} (h : w.ownsRow base e size v n xs) (hb : Below w.heap.size w w') : w'.ownsRow base e size v n xs :=
 h.kept (row := none) (pA hb) (by cases hv : v.ownBlock <;> simp)
theorem rK (pa : Option Addr) (np ncap : Nat) (ls : List Ln) (w : World) (hp : LinesIn w w.heap.size pa np ls) (hmax : np ≤ 9223372036854775807) (hmax2 : ∀ q ∈ ls, q.n ≤ 9223372036854775807) :
 Calls Tryz.prog 44 #[.slice pa np ncap] w (JS w (cX ls)) := by
 have HP := zh hp; have HM := zh hmax2; clear hp hmax2
 obtain ⟨i0, hi0, hz0, hz1, hz2⟩ := info_parts Tryz.info5
 have HI0 := zh hi0; have HZ0 := zh hz0; have HZ1 := zh hz1; have HZ2 := zh hz2
 clear hi0 hz0 hz1 hz2
 have nO := zh HP.out.len
 have HL2 := zh (dC ls)
 have HGET := zh (wordsOf_get? ls)
 generalize hwl : cX ls = wl at *
 clear hwl
 by_cases hbig : 1000 < np
 ·have HE : Hid (enc wl = (3, [])) := by
   have hc : chk wl = 3 := by unfold chk; rw [if_pos (by rw [HL2.out, nO.out]; exact hbig)]
   show _ = _; rw [mP (by rw [hc]; decide), hc]
  go_enter Tryz.func44, Tryz.ntmps44
  go_wp2_with fail
  go_ret2
  exact ⟨.slice none 0 0, by rw [HE.out]; rfl, by rw [HE.out]; exact World.ownsRow_nil _ _ _ _, Below.refl _ _⟩
 ·have HW1 : Hid (wl.length ≤ 1000) := by show _ ≤ _; rw [HL2.out, nO.out]; omega
  go_enter Tryz.func44, Tryz.ntmps44
  go_wp2_with fail
  go_loopg [4, 5] np (fun g b i wx => ∃ k : Nat, k + g = np ∧ i = .int .i64 k ∧ Hid (bU (wl.take k) = 0) ∧ ∃ sp cap, b = .slice sp (iA (wl.take k)).length cap ∧ Hid (wx.ownsRow w.heap.size 5 1 (.slice sp (iA (wl.take k)).length cap) (iA (wl.take k)).length (Lib.byteCells (iA (wl.take k)))) ∧ (iA (wl.take k)).length ≤ 16777216 * k ∧ Below w.heap.size w wx)
  case atStart => exact ⟨0, by omega, rfl, by show _ = _; simp [bU], none, 0, by simp [iA], by show World.ownsRow _ _ _ _ _ _ _; simp [iA]; exact World.ownsRow_nil _ _ _ _, by simp [iA], Below.refl _ _⟩
  case round =>
   obtain ⟨k, hg, rfl, HB, sp, cap, rfl, hown, hle, hbe⟩ := hrel
   have hbs := hbe.size
   by_cases hlt : k < np
   ·have hk2 : k < ls.length := by have := nO.out; omega
    obtain ⟨pb, po, rfl, hpb, hcell⟩ := HP.out.cells (by omega)
    have HC : Hid (w.cell? ⟨pb, po + k, none⟩ = some (.slice ls[k].sp ls[k].n ls[k].cap)) := hcell k hk2
    have HE := zh (HP.out.each _ (List.getElem_mem hk2))
    have HLK := zh (HGET.out k hk2)
    have hmx := HM.out _ (List.getElem_mem hk2)
    clear hcell
    generalize ls[k].sp = lsp at *
    generalize ls[k].n = n at *
    generalize ls[k].cap = lcap at *
    generalize ls[k].l = l at *
    obtain rfl := HE.out.len
    have HNX := zh (uO HLK.out)
    have HST := zh (rX HLK.out HB.out)
    have ck : wr.cell? ⟨pb, po + k, none⟩ = some (.slice lsp l.length lcap) := (hbe.cell (p := ⟨pb, po + k, none⟩) hpb).trans HC.out
    by_cases h0 : l.length = 0
    ·have h0b : ((l.length : Int) == 0) = true := beq_iff_eq.2 (by omega)
     have HEN : Hid (enc wl = (1, [])) := by
      have hc := kG HW1.out (HST.out.2 (by rw [jT h0]; decide))
      rw [jT h0] at hc
      show _ = _; rw [mP (by rw [hc]; decide), hc]
     have H0 := zh h0; clear h0
     generalize iA (wl.take k) = X at *
     go_wp2_with fail
     go_ret2
     exact ⟨.slice none 0 0, by rw [HEN.out]; rfl, by rw [HEN.out]; exact World.ownsRow_nil _ _ _ _, hbe⟩
    ·have h0b : ((l.length : Int) == 0) = false := beq_eq_false_iff_ne.2 (by omega)
     by_cases h1 : 120 < l.length
     ·have HEN : Hid (enc wl = (3, [])) := by
       have hc := kG HW1.out (HST.out.2 (by rw [jU h1]; decide))
       rw [jU h1] at hc
       show _ = _; rw [mP (by rw [hc]; decide), hc]
      generalize iA (wl.take k) = X at *
      clear h0
      go_wp2_with fail
      go_ret2
      exact ⟨.slice none 0 0, by rw [HEN.out]; rfl, by rw [HEN.out]; exact World.ownsRow_nil _ _ _ _, hbe⟩
     ·have hLJ := FY (l := l)
      have HLJ := zh hLJ; clear hLJ
      generalize iA (wl.take k) = X at *
      go_wp2_with fail
      go_loopg [4, 6] l.length (fun g b i wy => ∃ j : Nat, j + g = l.length ∧ i = .int .i64 j ∧ Hid ((l.take j).any lng = false) ∧ ∃ sp cap, b = .slice sp (X ++ jn l j).length cap ∧ Hid (wy.ownsRow w.heap.size 5 1 (.slice sp (X ++ jn l j).length cap) (X ++ jn l j).length (Lib.byteCells (X ++ jn l j))) ∧ Below w.heap.size w wy)
      case atStart => exact ⟨0, by omega, rfl, by show _ = _; simp, sp, cap, by simp [wG], by show World.ownsRow _ _ _ _ _ _ _; simpa [wG] using hown.out, hbe⟩
      case round =>
       clear hown hbe ck hbs
       obtain ⟨j, hg2, rfl, HA, sp2, cap2, rfl, hown, hbe⟩ := hrel
       have hbs := hbe.size
       have ck : wr.cell? ⟨pb, po + k, none⟩ = some (.slice lsp l.length lcap) := (hbe.cell (p := ⟨pb, po + k, none⟩) hpb).trans HC.out
       have hjl := jn_le l j (KZ HA.out)
       by_cases hj : j < l.length
       ·obtain ⟨sb, so, rfl, hsb, hsc⟩ := HE.out.cells (by omega)
        have HCW : Hid (w.cell? ⟨sb, so + j, none⟩ = some (.string l[j])) := hsc j hj
        have cw : wr.cell? ⟨sb, so + j, none⟩ = some (.string l[j]) := (hbe.cell (p := ⟨sb, so + j, none⟩) hsb).trans HCW.out
        clear hsc
        by_cases hw : 32768 < (l[j]).size
        ·have HEN : Hid (enc wl = (3, [])) := by
          have hb := nC h0 (JJ l j hj (by unfold lng; exact decide_eq_true hw))
          have hc := kG HW1.out (HST.out.2 (by rw [hb]; decide))
          rw [hb] at hc
          show _ = _; rw [mP (by rw [hc]; decide), hc]
         generalize l[j] = s at *
         have hd1 : decide ((s.size : Int) > 32768) = true := decide_eq_true (by omega)
         have hd2 : decide (32768 < (s.size : Int)) = true := decide_eq_true (by omega)
         clear h0 hjl
         go_wp2_with fail
         go_ret2
         exact ⟨.slice none 0 0, by rw [HEN.out]; rfl, by rw [HEN.out]; exact World.ownsRow_nil _ _ _ _, hbe⟩
        ·have HA2 := zh (lX l j hj HA.out (by unfold lng; exact decide_eq_false hw))
         by_cases hj0 : j = 0
         ·have HJ : Hid (X ++ jn l (j + 1) = (X ++ jn l j) ++ dS l[j].data.toList) := by
           subst hj0
           show _ = _; rw [GA hj, wG, List.append_nil]
          have hj0' : ¬ ((0 : Int) < (j : Int)) := by omega
          generalize l[j] = s at *
          have hwl := nQ s.data.toList
          rw [← Lib.size_eq] at hwl
          have hy : (X ++ jn l j).length ≤ 17000000000 := by rw [List.length_append]; omega
          have HRW := fun w => zh (oS s w (by omega))
          generalize hS : dS s.data.toList = S at *
          have HS := zh (show (⟨S.toArray⟩ : ByteArray).size = S.length from rfl)
          have HSD := zh (show Lib.strCells ⟨S.toArray⟩ = Lib.byteCells S from rfl)
          generalize (⟨S.toArray⟩ : ByteArray) = sS at *
          have hsz : sS.size ≤ 98305 := by rw [HS.out]; omega
          have hd1 : decide ((s.size : Int) > 32768) = false := decide_eq_false (by omega)
          have hd2 : decide (32768 < (s.size : Int)) = false := decide_eq_false (by omega)
          generalize X ++ jn l j = Y at *
          clear h0 hjl hS hj0
          go_wp2_with (first
           | (go_at_call 77; refine (HRW _).out.mono ?_; rintro e w4 ⟨rfl, hbe4⟩; have hbs4 := hbe4.size; have hown4 := tP hown.out hbe4)
           | (at_builtin; refine Lib.wpList_append_own_string _ rfl (.tmp 51) (.tmp 59) 22 9 rfl w.heap.size 5 i0 Tryz.underlying22 Tryz.underlying9 HI0.out HZ0.out HZ1.out HZ2.out _ _ _ rfl hown4 _ rfl (by unfold maxLen; omega) (by omega) (by omega) ?_; intro v5 w5 hown5 hg5 _; obtain ⟨sp5, cap5, rfl⟩ := jO hown5; have HO5 := zh hown5; clear hown5))
          go_roundg (l.length - (j + 1))
          case measure => omega
          case rel =>
           refine ⟨j + 1, by omega, by go_num, HA2.out, sp5, cap5, ?_, ?_, (hbe.trans (hbe4.mono hbs)).grown hg5 (by omega) (eV hown4)⟩
           ·rw [HJ.out, List.length_append, ← HS.out]
           ·rw [HJ.out]
            have := HO5.out
            rw [HSD.out, ← Lib.byteCells_append] at this
            show World.ownsRow _ _ _ _ _ _ _
            rw [List.length_append, ← HS.out]; exact this
         ·have HJ : Hid (X ++ jn l (j + 1) = ((X ++ jn l j) ++ [32]) ++ dS l[j].data.toList) := by show _ = _; rw [LF hj0 hj]; simp
          have hj0' : (0 : Int) < (j : Int) := by omega
          generalize l[j] = s at *
          have hwl := nQ s.data.toList
          rw [← Lib.size_eq] at hwl
          have hy : (X ++ jn l j).length ≤ 17000000000 := by rw [List.length_append]; omega
          have HRW := fun w => zh (oS s w (by omega))
          generalize hS : dS s.data.toList = S at *
          have HS := zh (show (⟨S.toArray⟩ : ByteArray).size = S.length from rfl)
          have HSD := zh (show Lib.strCells ⟨S.toArray⟩ = Lib.byteCells S from rfl)
          generalize (⟨S.toArray⟩ : ByteArray) = sS at *
          have hsz : sS.size ≤ 98305 := by rw [HS.out]; omega
          have hd1 : decide ((s.size : Int) > 32768) = false := decide_eq_false (by omega)
          have hd2 : decide (32768 < (s.size : Int)) = false := decide_eq_false (by omega)
          generalize X ++ jn l j = Y at *
          clear h0 hjl hS hj0
          go_wp2_with (first
           | (at_builtin; refine wpList_append_own _ rfl (.tmp 48) (.tmp 49) 22 rfl w.heap.size 5 i0 (.int .u8 0) 1 1 Tryz.underlying22 HI0.out HZ0.out HZ1.out HZ2.out rfl (by decide) _ _ _ rfl (hown.out.alloc _) ⟨wr.heap.size, 0, none⟩ 1 1 [.int .u8 32] rfl rfl (cell_one_new _ _ _) (by intro u hu; simp at hu; subst hu; rfl) (by unfold maxLen; omega) (by omega) (by simp; omega) ?_; intro v3 w3 hown3 hg3 _; have HO3 := zh hown3; clear hown3; have hbe3 := (hbe.alloc hbs _).grown hg3 (by simp; omega) (eV hown.out); have hbs3 := hbe3.size; have ck3 := (hbe3.cell (p := ⟨pb, po + k, none⟩) hpb).trans HC.out; have cw3 := (hbe3.cell (p := ⟨sb, so + j, none⟩) hsb).trans HCW.out)
           | (go_at_call 77; refine (HRW _).out.mono ?_; rintro e w4 ⟨rfl, hbe4⟩; have hbs4 := hbe4.size; have hown4 := tP HO3.out hbe4)
           | (at_builtin; refine Lib.wpList_append_own_string _ rfl (.tmp 51) (.tmp 59) 22 9 rfl w.heap.size 5 i0 Tryz.underlying22 Tryz.underlying9 HI0.out HZ0.out HZ1.out HZ2.out _ _ _ rfl hown4 _ rfl (by unfold maxLen; omega) (by omega) (by omega) ?_; intro v5 w5 hown5 hg5 _; obtain ⟨sp5, cap5, rfl⟩ := jO hown5; have HO5 := zh hown5; clear hown5))
          go_roundg (l.length - (j + 1))
          case measure => omega
          case rel =>
           refine ⟨j + 1, by omega, by go_num, HA2.out, sp5, cap5, ?_, ?_, (hbe3.trans (hbe4.mono hbs3)).grown hg5 (by omega) (eV hown4)⟩
           ·rw [HJ.out, List.length_append, List.length_append, ← HS.out]; rfl
           ·rw [HJ.out]
            have := HO5.out
            rw [HSD.out] at this
            show World.ownsRow _ _ _ _ _ _ _
            rw [List.length_append, List.length_append, ← HS.out, Lib.byteCells_append, Lib.byteCells_append]; exact this
       ·obtain rfl : j = l.length := by omega
        have HFB : Hid (bU (wl.take (k + 1)) = 0) := by
         have ha := HA.out
         rw [List.take_of_length_le (Nat.le_refl _)] at ha
         exact HST.out.1 (nD h0 h1 ha)
        have hy : (X ++ jn l l.length).length ≤ 17000000000 := by rw [List.length_append]; omega
        have hyl : (X ++ jn l l.length).length + 1 ≤ 16777216 * (k + 1) := by rw [List.length_append]; omega
        have HEX : Hid (iA (wl.take (k + 1)) = (X ++ jn l l.length) ++ [10]) := by show _ = _; rw [HNX.out, HLJ.out, List.append_assoc]
        generalize X ++ jn l l.length = Y at *
        clear h0 hjl
        go_wp2_with (at_builtin; refine wpList_append_own _ rfl (.tmp 61) (.tmp 62) 22 rfl w.heap.size 5 i0 (.int .u8 0) 1 1 Tryz.underlying22 HI0.out HZ0.out HZ1.out HZ2.out rfl (by decide) _ _ _ rfl (hown.out.alloc _) ⟨wr.heap.size, 0, none⟩ 1 1 [.int .u8 10] rfl rfl (cell_one_new _ _ _) (by intro u hu; simp at hu; subst hu; rfl) (by unfold maxLen; omega) (by omega) (by simp; omega) ?_; intro v3 w3 hown3 hg3 _; obtain ⟨sp3, cap3, rfl⟩ := jO hown3; have HO3 := zh hown3; clear hown3)
        go_roundg (np - (k + 1))
        case measure => omega
        case rel =>
         refine ⟨k + 1, by omega, by go_num, HFB.out, sp3, cap3, ?_, ?_, ?_, (hbe.alloc hbs _).grown hg3 (by simp; omega) (eV hown.out)⟩
         ·rw [HEX.out]; simp
         ·rw [HEX.out]
          have := HO3.out
          show World.ownsRow _ _ _ _ _ _ _
          simpa [Lib.byteCells_append, Lib.byteCells] using this
         ·rw [HEX.out, List.length_append]; exact hyl
   ·obtain rfl : k = np := by omega
    have hall : wl.take k = wl := List.take_of_length_le (by rw [HL2.out, nO.out]; exact Nat.le_refl _)
    have HCK : Hid (chk wl = 0) := kG HW1.out (by rw [← hall]; exact HB.out)
    rw [hall] at hown hle
    rw [hall]
    clear hall HB
    by_cases hlong : 262144 < (iA wl).length
    ·have HE := zh (rY HCK.out hlong)
     have HHL := zh hlong
     obtain ⟨X, hX⟩ : ∃ X, iA wl = X := ⟨_, rfl⟩
     rw [hX] at hown hle hlong
     rw [hX]
     clear hX
     have hd1 : decide ((X.length : Int) > 262144) = true := decide_eq_true (by omega)
     have hd2 : decide (262144 < (X.length : Int)) = true := decide_eq_true (by omega)
     clear hlong hle
     go_wp2_with fail
     go_ret2
     exact ⟨.slice none 0 0, by rw [HE.out]; rfl, by rw [HE.out]; exact World.ownsRow_nil _ _ _ _, hbe⟩
    ·have HE := zh (rZ HCK.out hlong)
     obtain ⟨X, hX⟩ : ∃ X, iA wl = X := ⟨_, rfl⟩
     rw [hX] at hown hle hlong HE
     rw [hX]
     clear hX
     have hd1 : decide ((X.length : Int) > 262144) = false := decide_eq_false (by omega)
     have hd2 : decide (262144 < (X.length : Int)) = false := decide_eq_false (by omega)
     clear hlong hle
     go_wp2_with fail
     go_ret2
     exact ⟨_, by rw [HE.out]; rfl, by rw [HE.out]; exact hown, hbe⟩
end Go.Proofs.YtcligodahogpkaaGreatDoor
