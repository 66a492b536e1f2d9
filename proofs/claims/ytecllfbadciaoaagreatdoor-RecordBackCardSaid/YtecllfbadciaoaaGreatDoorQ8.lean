/-
  The walk of the tape's Link (condition: the tape can be drawn from 45 times more).
-/
import Derived.Test.YtecllfbadciaoaaGreatDoorZip
import Derived.Test.YtecllfbadciaoaaGreatDoorQ7
import Derived.Deep.Cut
import Derived.Deep.DeepCutAuto
import Derived.Shelf.RegionOpenPlain
import Derived.Lib.UnsafeStr
import Derived.Lib.BufferWrite
import Derived.Laws.IdiomStrings
import Derived.Deep.DrawnRows
import Derived.BigRegion
set_option maxRecDepth 100000
set_option maxHeartbeats 8000000
namespace Go.Proofs.YtecllfbadciaoaaGreatDoor
open Go.RowKit
def noIntT (cs : Array Value) : Bool := cs.toList.all fun v => match v with | .int _ _ => false | _ => true
theorem range_setT {w : World} {g : Nat} {cs ds : Array Value} {t : TypeId} {b o : Nat} {L : List Value} (hg : w.heap[g]? = some (.cells cs t (0, 0))) (hn : noIntT cs = true) (hL : ∃ (j : Nat) (k : IntKind) (m : Int), L[j]? = some (.int k m)) (h : w.rangeAt b o L) : (w.setRow g ds).rangeAt b o L := by
 have hne : b ≠ g := by
  rintro rfl
  obtain ⟨j, k, m, e⟩ := hL
  have h1 := h j _ e
  rw [cell_of_row w b (o + j) cs t (0, 0) hg] at h1
  have h2 : Value.int k m ∈ cs.toList := by
   obtain ⟨hlt, he⟩ := Array.getElem?_eq_some_iff.1 h1
   rw [← he]; exact Array.getElem_mem_toList hlt
  exact absurd (List.all_eq_true.1 hn _ h2) (by simp)
 intro j v hv
 exact (World.cell?_of_block (w := w) (setRow_other _ _ _ _ hne)).trans (h j v hv)
theorem EnsIn.setT {w : World} {g B : Nat} {cs ds : Array Value} {t : TypeId} {sp : Option Addr} {n cap : Nat} {l : List En} (hg : w.heap[g]? = some (.cells cs t (0, 0))) (hn : noIntT cs = true) (h : EnsIn w B sp n cap l) : EnsIn (w.setRow g ds) B sp n cap l :=
 ⟨h.len, h.ok, fun hp => by
  obtain ⟨b, off, e, hlt, hc, hr⟩ := h.cells hp
  refine ⟨b, off, e, hlt, hc, fun i x hi => range_setT hg hn ?_ (hr i x hi)⟩
  have hok := h.ok x (List.mem_of_getElem? hi)
  obtain ⟨a, r, hd⟩ : ∃ a r, x.d = a :: r := by
   cases hx : x.d with
   | nil => exact absurd (show x.d.length = 32 from hok.1) (by rw [hx]; decide)
   | cons a r => exact ⟨a, r, rfl⟩
  exact ⟨1, .u8, a, by unfold enL; rw [hd]; rfl⟩⟩
def lkL (s : ByteArray) (p q : Value) : List Value := [.string s, p, q]
theorem infoLkA (s : ByteArray) (p q : Value) : (Tryz.prog.info? 46).map (·.size) = some (lkL s p q).toArray.size := by kernel_rfl
theorem oneLk (s : ByteArray) (p1 : Option Addr) (n1 c1 : Nat) (p2 : Option Addr) (n2 c2 : Nat) : (lkL s (.slice p1 n1 c1) (.slice p2 n2 c2)).toArray.all (·.oneCell') = true := by simp [lkL, Value.oneCell']
theorem buildLk (s : ByteArray) (p1 : Option Addr) (n1 c1 : Nat) (p2 : Option Addr) (n2 c2 : Nat) (w : World) : (Instr.build 46 #[(0, .string s), (1, .slice p1 n1 c1), (2, .slice p2 n2 c2)]).run Tryz.prog w = .ok (.agg (lkL s (.slice p1 n1 c1) (.slice p2 n2 c2)).toArray) w := by kernel_rfl
def zLk : Array Value := #[.string ⟨#[]⟩, .slice none 0 0, .slice none 0 0]
theorem link_any (tb q : Nat) (s : ByteArray) (w : World) (ht : Tp w tb (q + 45)) :
 Calls Tryz.prog 26 #[.pointer (some ⟨tb, 0, none⟩), .string s] w fun e w' => ∃ sp n cap l sp' n' cap' l', e = .returned (.agg (lkL s (.slice sp n cap) (.slice sp' n' cap')).toArray) ∧
  EnsIn w' w'.heap.size sp n cap l ∧ ApartT tb sp ∧ n ≤ 5 ∧ EnsIn w' w'.heap.size sp' n' cap' l' ∧ ApartT tb sp' ∧ n' ≤ 8 ∧ Tp w' tb q ∧ Turn tb w w' := by
 have HT := zh ht
 clear ht
 go_enter Tryz.func26, Tryz.ntmps26
 go_upto_region 1 with fail
 generalize hw0 : World.alloc w _ = w0
 have hrow : w0.heap[w.heap.size]? = some (.cells zLk 46 (0, 0)) := by rw [← hw0]; exact heap_alloc_new _ _
 have hb0 : Below w.heap.size w w0 := by rw [← hw0]; exact (Below.refl _ _).alloc (Nat.le_refl _) _
 have HT0 : Hid (Tp w0 tb (q + 45)) := HT.out.of hb0
 have HU0 : Hid (Turn tb w w0) := Turn.of hb0
 have HR0 := zh hrow
 have hlt0 : w.heap.size < w0.heap.size := by rw [← hw0]; simp
 have HTL : Hid (tb < w.heap.size) := HT.out.lt
 clear hw0 hrow hb0 HT
 go_wp2_with fail
 refine (snapshot_any tb 5 (q + 19) w0 (HT0.out.le (by omega)) (by omega)).mono ?_
 rintro e w1 ⟨sp, n, cap, l, rfl, he, ha, hsn, hn, ht, hu⟩
 have HE1 := zh he; have HA1 := zh ha; have HS1 := zh hsn; have HN1 := zh hn; have HT1 := zh ht
 have HU1 : Hid (Turn tb w w1) := HU0.out.trans hu
 have HR1 : Hid (w1.heap[w.heap.size]? = some (.cells zLk 46 (0, 0))) := (hu.block _ hlt0 (by have := HTL.out; omega)).trans HR0.out
 have hlt1 : w.heap.size < w1.heap.size := by have := hu.size; omega
 clear he ha hsn hn ht hu HT0 HU0 HR0 hlt0
 go_wp2_with fail
 refine (edit_any tb q sp n cap l w1 HT1.out HE1.out HA1.out HS1.out (by have := HN1.out; omega)).mono ?_
 rintro e w2 ⟨sp', n', cap', l', rfl, he, ha, hsn, hn, ht, hu⟩
 have HE2 := zh he; have HA2 := zh ha; have HT2 := zh ht
 have HN2 : Hid (n' ≤ 8) := by show _ ≤ _; have := HN1.out; omega
 have HE12 : Hid (EnsIn w2 w2.heap.size sp n cap l) := HE1.out.turn HA1.out hu
 have HU2 : Hid (Turn tb w w2) := HU1.out.trans hu
 have HR2 : Hid (w2.heap[w.heap.size]? = some (.cells zLk 46 (0, 0))) := (hu.block _ hlt1 (by have := HTL.out; omega)).trans HR1.out
 clear he ha hsn hn ht hu HT1 HU1 HR1 hlt1 HE1 HS1
 have hbl := buildLk s sp n cap sp' n' cap' w2
 go_wp2_with (refine wpList_store_row rfl 46 _ _ rfl w.heap.size (lkL s (.slice sp n cap) (.slice sp' n' cap')).toArray rfl rfl 46 _ HR2.out (infoLkA _ _ _) rfl (oneLk _ _ _ _ _ _ _) ?_)
 generalize hw3 : World.setRow w2 w.heap.size _ = w3
 have hrow : w3.heap[w.heap.size]? = some (.cells (lkL s (.slice sp n cap) (.slice sp' n' cap')).toArray 46 (0, 0)) := by rw [← hw3]; exact setRow_heap _ _ _ _ _ _ HR2.out
 have hU3 : Turn tb w w3 := by rw [← hw3]; exact Turn.setRow HU2.out (Nat.le_refl _) _
 have hoth : ∀ k, k ≠ w.heap.size → w3.heap[k]? = w2.heap[k]? := fun k hk => by rw [← hw3]; exact setRow_other _ _ _ _ hk
 have hsz : w3.heap.size = w2.heap.size := by rw [← hw3]; exact setRow_size _ _ _
 have HBW : Hid (Below w.heap.size w2 w3) := by rw [← hw3]; exact below_setRow (Below.refl _ _) (Nat.le_refl _) _
 have HE3 : Hid (EnsIn w3 w3.heap.size sp n cap l ∧ EnsIn w3 w3.heap.size sp' n' cap' l') := by rw [hsz, ← hw3]; exact ⟨HE12.out.setT HR2.out (by decide), HE2.out.setT HR2.out (by decide)⟩
 clear hw3
 refine bodyPost_ret (results_row1 rfl _ _ _ _ _ _ _ rfl hrow Tryz.underlying46 rfl (infoLkA _ _ _)) rfl ?_
 have hbw : Below w.heap.size w2 w3 := HBW.out
 exact ⟨sp, n, cap, l, sp', n', cap', l', rfl, HE3.out.1, HA1.out, HN1.out, HE3.out.2, HA2.out, HN2.out, HT2.out.ofB hbw HTL.out, hU3⟩
theorem ret_bool {a b : Bool} (h : a = b) : Ending.returned (.bool a) = .returned (.bool b) := by rw [h]
theorem ret_int {k : IntKind} {a b : Int} (h : a = b) : Ending.returned (.int k a) = .returned (.int k b) := by rw [h]
def digB (c : Int) : Bool := decide (48 ≤ c) && decide (c ≤ 57)
def ldB (c : Int) : Bool := (decide (97 ≤ c) && decide (c ≤ 122)) || digB c
def plnB (c : Int) : Bool := (decide (33 ≤ c) && decide (c ≤ 125)) && (c != 37)
theorem digit_any (c : Int) (w : World) :
 Calls Tryz.prog 124 #[.int .u8 c] w fun e w' => e = .returned (.bool (digB c)) ∧ w = w' := by
 by_cases h1 : 48 ≤ c
 ·go_enter Tryz.func124, Tryz.ntmps124
  go_wp2
  go_ret
  exact ⟨ret_bool (by simp [digB, h1]), rfl⟩
 ·go_enter Tryz.func124, Tryz.ntmps124
  go_wp2
  go_ret
  exact ⟨ret_bool (by unfold digB; rw [decide_eq_false (p := 48 ≤ c) (by omega)]; rfl), rfl⟩
theorem letterOrDigit_any (c : Int) (w : World) :
 Calls Tryz.prog 105 #[.int .u8 c] w fun e w' => e = .returned (.bool (ldB c)) ∧ w = w' := by
 by_cases h1 : 97 ≤ c
 ·by_cases h2 : c ≤ 122
  ·go_enter Tryz.func105, Tryz.ntmps105
   go_wp2
   go_ret
   exact ⟨ret_bool (by unfold ldB; rw [decide_eq_true h1, decide_eq_true h2]; rfl), rfl⟩
  ·go_enter Tryz.func105, Tryz.ntmps105
   go_wp2_with (go_at_call 124; refine (digit_any _ _).mono ?_; rintro e w' ⟨rfl, rfl⟩)
   go_ret
   exact ⟨ret_bool (by unfold ldB; rw [decide_eq_false (p := c ≤ _) (by omega)]; simp), rfl⟩
 ·go_enter Tryz.func105, Tryz.ntmps105
  go_wp2_with (go_at_call 124; refine (digit_any _ _).mono ?_; rintro e w' ⟨rfl, rfl⟩)
  go_ret
  exact ⟨ret_bool (by unfold ldB; rw [decide_eq_false (p := _ ≤ c) (by omega)]; simp), rfl⟩
theorem plain_any (c : Int) (w : World) :
 Calls Tryz.prog 114 #[.int .u8 c] w fun e w' => e = .returned (.bool (plnB c)) ∧ w = w' := by
 by_cases h1 : 33 ≤ c
 ·by_cases h2 : c ≤ 125
  ·go_enter Tryz.func114, Tryz.ntmps114
   go_wp2
   go_ret
   exact ⟨ret_bool (by unfold plnB; rw [decide_eq_true h1, decide_eq_true h2]; rfl), rfl⟩
  ·go_enter Tryz.func114, Tryz.ntmps114
   go_wp2
   go_ret
   exact ⟨ret_bool (by unfold plnB; rw [decide_eq_false (p := c ≤ _) (by omega)]; simp), rfl⟩
 ·go_enter Tryz.func114, Tryz.ntmps114
  go_wp2
  go_ret
  exact ⟨ret_bool (by unfold plnB; rw [decide_eq_false (p := _ ≤ c) (by omega)]; simp), rfl⟩
theorem tooLong_any (s : ByteArray) (w : World) :
 Calls Tryz.prog 102 #[.string s] w fun e w' => e = .returned (.bool (decide (32768 < s.size))) ∧ w = w' := by
 go_enter Tryz.func102, Tryz.ntmps102
 go_wp2
 go_ret
 exact ⟨ret_bool (by simp; omega), rfl⟩
theorem indexByteLite_any (s : ByteArray) (c : Int) (w : World) :
 Calls Tryz.prog 126 #[.string s, .int .u8 c] w fun e w' => e = .returned (.int .i64 (Lib.indexByte s.data.toList c.toNat.toUInt8)) ∧ w = w' := by
 go_enter Tryz.func126, Tryz.ntmps126
 go_wp2
 rw [run_callFunc_extern Tryz.func141 (by kernel_rfl) (by kernel_rfl) (by kernel_rfl) (e := Extern.BytealgIndexByte.indexByte) (by kernel_rfl), Lib.run_indexByteString]
 simp only [Result.andThen]
 rw [Oper.upon_value]
 go_wp2
 go_ret
 exact ⟨rfl, rfl⟩
theorem indexByte_any (s : ByteArray) (c : Int) (w : World) :
 Calls Tryz.prog 106 #[.string s, .int .u8 c] w fun e w' => e = .returned (.int .i64 (Lib.indexByte s.data.toList c.toNat.toUInt8)) ∧ w = w' := by
 go_enter Tryz.func106, Tryz.ntmps106
 go_wp2_with (go_at_call 126; refine (indexByteLite_any _ _ _).mono ?_; rintro e w' ⟨rfl, rfl⟩)
 go_ret
 exact ⟨rfl, rfl⟩
def nmc (c : UInt8) : Bool := ldB c.toNat || (c == 46 || c == 95 || c == 45)
def nmB (l : List UInt8) : Bool := decide (l.length ≤ 64) && ((match l with | c :: _ => ldB c.toNat | [] => false) && l.all nmc)
theorem byteOf (c : UInt8) : ((c.toNat : Int)).toNat.toUInt8 = c := by simp
theorem dots (c : UInt8) : decide (Lib.indexByte [46, 95, 45] c < 0) = !(c == 46 || c == 95 || c == 45) := by
 unfold Lib.indexByte Lib.indexByte Lib.indexByte Lib.indexByte
 by_cases h1 : c = 46
 ·subst h1; rfl
 ·by_cases h2 : c = 95
  ·subst h2; rfl
  ·by_cases h3 : c = 45
   ·subst h3; rfl
   ·have e1 : ((46 : UInt8) == c) = false := by simpa using fun h => h1 h.symm
    have e2 : ((95 : UInt8) == c) = false := by simpa using fun h => h2 h.symm
    have e3 : ((45 : UInt8) == c) = false := by simpa using fun h => h3 h.symm
    simp [e1, e2, e3, h1, h2, h3]
theorem nmc_of_dots {c : UInt8} (h : ldB c.toNat = false) : nmc c = !decide (Lib.indexByte [46, 95, 45] c < 0) := by
 rw [dots]; unfold nmc; rw [h]; simp
theorem nmc_of_ld {c : UInt8} (h : ldB c.toNat = true) : nmc c = true := by unfold nmc; rw [h]; rfl
theorem data_take_succ (s : ByteArray) (k : Nat) (h : k < s.size) : s.data.toList.take (k + 1) = s.data.toList.take k ++ [s[k]] := by
 rw [List.take_succ_eq_append_getElem (by simpa using h)]; rfl
theorem data_all (s : ByteArray) (k : Nat) (h : s.size ≤ k) : s.data.toList.take k = s.data.toList := List.take_of_length_le (by rw [← Lib.size_eq]; exact h)
theorem data_cons (s : ByteArray) (h : 0 < s.size) : ∃ t, s.data.toList = s[0] :: t := by
 have h' : 0 < s.data.toList.length := by rw [← Lib.size_eq]; exact h
 cases hl : s.data.toList with
 | nil => rw [hl] at h'; simp at h'
 | cons a t =>
   refine ⟨t, ?_⟩
   have : s[0] = s.data.toList[0] := rfl
   rw [this]; simp [hl]
theorem nmB_head {s : ByteArray} (h : 0 < s.size) (h64 : s.size ≤ 64) : nmB s.data.toList = (ldB (s[0].toNat) && s.data.toList.all nmc) := by
 have h' : s.data.toList.length ≤ 64 := by rw [← Lib.size_eq]; exact h64
 obtain ⟨t, ht⟩ := data_cons s h
 unfold nmB
 rw [decide_eq_true h', ht]
 simp
theorem nmB_empty {s : ByteArray} (h : s.size = 0) : nmB s.data.toList = false := by
 have : s.data.toList = [] := List.eq_nil_of_length_eq_zero (by rw [← Lib.size_eq]; exact h)
 rw [this]; rfl
theorem nmB_long {s : ByteArray} (h : 64 < s.size) : nmB s.data.toList = false := by
 unfold nmB
 rw [decide_eq_false (by rw [← Lib.size_eq]; omega)]; rfl
theorem all_false_of {s : ByteArray} {k : Nat} (h : k < s.size) (hc : nmc s[k] = false) : s.data.toList.all nmc = false := by
 rw [Bool.eq_false_iff]; intro ha
 have := List.all_eq_true.1 ha s[k] (by have : s[k] = s.data.toList[k]'(by simpa using h) := rfl
                                        rw [this]; exact List.getElem_mem _)
 rw [hc] at this; cases this
theorem Name_any (s : ByteArray) (w : World) (hs : s.size ≤ maxLen) :
 Calls Tryz.prog 68 #[.string s] w fun e w' => e = .returned (.bool (nmB s.data.toList)) ∧ w = w' := by
 unfold maxLen at hs
 by_cases h0 : s.size = 0
 ·have hn := nmB_empty h0
  generalize nmB s.data.toList = r at *
  have e0 : s.toList = [] := by rw [Lib.toList_data]; exact List.eq_nil_of_length_eq_zero (by rw [← Lib.size_eq]; exact h0)
  have HN := zh hn; clear hn
  go_enter Tryz.func68, Tryz.ntmps68
  go_wp2
  go_ret
  exact ⟨ret_bool HN.out.symm, rfl⟩
 ·have e0 : s.toList.isEmpty = false := by
   rw [Lib.toList_data, List.isEmpty_eq_false_iff]
   intro h; rw [Lib.size_eq, h] at h0; simp at h0
  have H0 : 0 < s.size := by omega
  by_cases h64 : 64 < s.size
  ·have HN := zh (nmB_long h64)
   generalize nmB s.data.toList = r at *
   go_enter Tryz.func68, Tryz.ntmps68
   go_wp2
   go_ret
   exact ⟨ret_bool HN.out.symm, rfl⟩
  ·have HN := zh (nmB_head H0 (by omega))
   generalize nmB s.data.toList = r at *
   cases hld : ldB (s[0].toNat)
   ·rw [hld] at HN
    have HL := zh hld; clear hld
    go_enter Tryz.func68, Tryz.ntmps68
    go_wp2_with (go_at_call 105; refine (letterOrDigit_any _ _).mono ?_; rintro e w' ⟨rfl, rfl⟩; rw [HL.out])
    go_ret
    exact ⟨ret_bool (by rw [HN.out]; rfl), rfl⟩
   ·rw [hld] at HN
    have HL := zh hld; clear hld
    go_enter Tryz.func68, Tryz.ntmps68
    go_wp2_with (go_at_call 105; refine (letterOrDigit_any _ _).mono ?_; rintro e w' ⟨rfl, rfl⟩; rw [HL.out])
    go_loop [19] (fun i => ∃ k : Nat, k ≤ s.size ∧ i = .int .i64 k ∧ Hid ((s.data.toList.take k).all nmc = true)) (fun i => s.size - (intOf i).toNat)
    case atStart => exact ⟨0, by omega, rfl, rfl⟩
    case round =>
     obtain ⟨k, hk, rfl, HA⟩ := hrel
     by_cases hlt : k < s.size
     ·have HS := zh (data_take_succ s k hlt)
      cases hl : ldB (s[k].toNat)
      ·have HK := zh (nmc_of_dots hl)
       have HL2 := zh hl; clear hl
       cases hd : decide (Lib.indexByte [46, 95, 45] s[k] < 0)
       ·rw [hd] at HK
        have hd2 : ¬ Lib.indexByte [46, 95, 45] s[k] < 0 := of_decide_eq_false hd
        clear hd
        go_wp2_with (first | (go_at_call 105; refine (letterOrDigit_any _ _).mono ?_; rintro e w' ⟨rfl, rfl⟩; rw [HL2.out]) | (go_at_call 106; refine (indexByte_any _ _ _).mono ?_; rintro e w' ⟨rfl, rfl⟩; rw [byteOf]))
        go_round
        case rel => exact ⟨k + 1, by omega, by go_num, by show _ = true; rw [HS.out, List.all_append, HA.out]; simp [HK.out]⟩
        case measure => simp [intOf]; omega
       ·rw [hd] at HK
        have hd2 : Lib.indexByte [46, 95, 45] s[k] < 0 := of_decide_eq_true hd
        clear hd
        go_wp2_with (first | (go_at_call 105; refine (letterOrDigit_any _ _).mono ?_; rintro e w' ⟨rfl, rfl⟩; rw [HL2.out]) | (go_at_call 106; refine (indexByte_any _ _ _).mono ?_; rintro e w' ⟨rfl, rfl⟩; rw [byteOf]))
        go_ret
        exact ⟨ret_bool (by rw [HN.out, all_false_of hlt HK.out]; rfl), rfl⟩
      ·have HK := zh (nmc_of_ld hl)
       have HL2 := zh hl; clear hl
       go_wp2_with (go_at_call 105; refine (letterOrDigit_any _ _).mono ?_; rintro e w' ⟨rfl, rfl⟩; rw [HL2.out])
       go_round
       case rel => exact ⟨k + 1, by omega, by go_num, by show _ = true; rw [HS.out, List.all_append, HA.out]; simp [HK.out]⟩
       case measure => simp [intOf]; omega
     ·go_wp2
      go_ret
      exact ⟨ret_bool (by rw [HN.out, ← data_all s k (by omega), HA.out]; rfl), rfl⟩
end Go.Proofs.YtecllfbadciaoaaGreatDoor
namespace Go.Proofs.YtecllfbadciaoaaGreatDoor
open Go
def scpK (r : Nat) (s : ByteArray) : Bool := (seg s).all (fun x => nmB x.data.toList) && decide ((seg s).length ≤ r)
def scpB (s : ByteArray) : Bool := (s.toList == []) || scpK 4 s
theorem seg_pos (s : ByteArray) : 1 ≤ (seg s).length := by
 have := Lib.splitB_all slB (by decide) 0 _ s rfl
 show 1 ≤ (Lib.splitB slB 0 (Lib.countB s slB) s).length
 omega
theorem scpK_zero (s : ByteArray) : scpK 0 s = false := by
 unfold scpK
 have := seg_pos s
 rw [decide_eq_false (by omega), Bool.and_false]
theorem scpK_miss (r : Nat) (s : ByteArray) (h : Lib.indexB s slB = -1) : scpK (r + 1) s = nmB s.data.toList := by
 unfold scpK
 rw [seg_miss s h]
 simp
theorem scpK_hit (r : Nat) (s : ByteArray) (i : Nat) (h : Lib.indexB s slB = i) : scpK (r + 1) s = (nmB (s.extract 0 i).data.toList && scpK r (s.extract (i + 1) s.size)) := by
 unfold scpK
 rw [seg_hit s i h]
 simp [Bool.and_assoc]
def ctF (s : ByteArray) : Bool := decide (0 ≤ Lib.indexB s slB)
def ctA (s : ByteArray) : ByteArray := if ctF s then s.extract 0 (Lib.indexB s slB).toNat else s
def ctB (s : ByteArray) : ByteArray := if ctF s then s.extract ((Lib.indexB s slB).toNat + 1) s.size else ⟨#[]⟩
theorem ct_cases (s : ByteArray) : (ctF s = false ∧ ctA s = s ∧ ctB s = ⟨#[]⟩ ∧ Lib.indexB s slB = -1) ∨ ∃ i : Nat, ctF s = true ∧ ctA s = s.extract 0 i ∧ ctB s = s.extract (i + 1) s.size ∧ Lib.indexB s slB = i ∧ i + 1 ≤ s.size := by
 rcases Lib.indexB_cases s slB with h | ⟨i, h, hr⟩
 ·have hf : ctF s = false := by unfold ctF; rw [h]; rfl
  refine .inl ⟨hf, ?_, ?_, h⟩
  ·unfold ctA; rw [if_neg (by rw [hf]; simp)]
  ·unfold ctB; rw [if_neg (by rw [hf]; simp)]
 ·have hf : ctF s = true := by unfold ctF; rw [h]; exact decide_eq_true (by omega)
  refine .inr ⟨i, hf, ?_, ?_, h, hr⟩
  ·unfold ctA; rw [if_pos hf, h]; rfl
  ·unfold ctB; rw [if_pos hf, h]; rfl
theorem scpK_ct (r : Nat) (s : ByteArray) : scpK (r + 1) s = (nmB (ctA s).data.toList && (!ctF s || scpK r (ctB s))) := by
 rcases ct_cases s with ⟨h1, h2, h3, h4⟩ | ⟨i, h1, h2, h3, h4, _⟩
 ·rw [h1, h2, scpK_miss r s h4]; simp
 ·rw [h1, h2, h3, scpK_hit r s i h4]; simp
theorem ctA_size (s : ByteArray) : (ctA s).size ≤ s.size := by
 unfold ctA; split
 ·rw [ByteArray.size_extract]; omega
 ·exact Nat.le_refl _
theorem ctB_size (s : ByteArray) : (ctB s).size ≤ s.size := by
 unfold ctB; split
 ·rw [ByteArray.size_extract]; omega
 ·exact Nat.zero_le _
end Go.Proofs.YtecllfbadciaoaaGreatDoor
namespace Go.Proofs.YtecllfbadciaoaaGreatDoor
open Go.RowKit
theorem cutLite_slash (s : ByteArray) (w : World) (hs : s.size ≤ maxLen) :
 Calls Tryz.prog 111 #[.string s, .string (oneB 47)] w fun e w' => e = .returned (.tuple #[.string (ctA s), .string (ctB s), .bool (ctF s)]) ∧ Below w.heap.size w w' := by
 have HC := zh (fun w => indexLite_anyS s 47 w)
 rcases ct_cases s with ⟨h1, h2, h3, h4⟩ | ⟨i, h1, h2, h3, h4, h5⟩
 ·rw [h1, h2, h3]
  rw [show Lib.indexB s (oneB 47) = -1 from h4] at HC
  clear h1 h2 h3 h4
  go_enter Tryz.func111, Tryz.ntmps111
  go_wp2_with fail
  refine (HC.out _).mono ?_
  rintro e w' ⟨rfl, rfl⟩
  go_wp2_with fail
  go_ret3
  exact ⟨rfl, Below.refl _ _⟩
 ·rw [h1, h2, h3]
  rw [show Lib.indexB s (oneB 47) = (i : Int) from h4] at HC
  have hsz := oneB_size 47
  have c1 : (0 : Int) ≤ (i : Int) := by omega
  have c2 : (i : Int) ≤ (s.size : Int) := by omega
  have c3 : (0 : Int) ≤ (i : Int) + 1 := by omega
  have c4 : (i : Int) + 1 ≤ (s.size : Int) := by omega
  have c5 : IntKind.i64.wrap ((i : Int) + 1) = (i : Int) + 1 := IntWalk.i64_in _ (by unfold maxLen at hs; omega)
  have mixed : Tryz.prog.follows .mixedOrders = true := by kernel_rfl
  clear h1 h2 h3 h4
  go_enter Tryz.func111, Tryz.ntmps111
  go_wp2_with fail
  refine (HC.out _).mono ?_
  rintro e w' ⟨rfl, rfl⟩
  go_wp2_with fail
  go_region_o
  go_wp2_with fail
  go_ret3
  exact ⟨rfl, (Below.refl _ _).drew⟩
theorem cut_slash (s : ByteArray) (w : World) (hs : s.size ≤ maxLen) :
 Calls Tryz.prog 74 #[.string s, .string (oneB 47)] w fun e w' => e = .returned (.tuple #[.string (ctA s), .string (ctB s), .bool (ctF s)]) ∧ Below w.heap.size w w' := by
 have HC := zh (fun w => cutLite_slash s w hs)
 clear hs
 generalize ctA s = a at *
 generalize ctB s = b at *
 generalize ctF s = c at *
 go_enter Tryz.func74, Tryz.ntmps74
 go_wp2_with fail
 refine (HC.out _).mono ?_
 rintro e w' ⟨rfl, hb⟩
 have HB := zh hb
 clear hb
 go_wp2_with fail
 go_ret3
 exact ⟨rfl, HB.out⟩
theorem Scope_any (s : ByteArray) (w : World) (hs : s.size ≤ maxLen) :
 Calls Tryz.prog 37 #[.string s] w fun e w' => e = .returned (.bool (scpB s)) ∧ Below w.heap.size w w' := by
 by_cases he : (s.toList == []) = true
 ·have HX : Hid (scpB s = true) := by show _ = _; unfold scpB; rw [he]; rfl
  have hl : s.toList = [] := by simpa using he
  clear he
  go_enter Tryz.func37, Tryz.ntmps37
  go_wp2_with fail
  go_ret
  exact ⟨by rw [HX.out]; rfl, Below.refl _ _⟩
 ·have he : (s.toList == []) = false := by simpa using he
  have HX : Hid (scpB s = scpK 4 s) := by show _ = _; unfold scpB; rw [he]; rfl
  have hl2 : ¬ s.toList = [] := by simpa using he
  have HSZ := zh hs
  clear hs
  go_enter Tryz.func37, Tryz.ntmps37
  go_wp2_with fail
  clear he hl2
  go_loopw [0, 8] (fun a i wr => ∃ (k : Nat) (t : ByteArray), k ≤ 4 ∧ a = .string t ∧ i = .int .i64 k ∧ Hid (t.size ≤ maxLen) ∧ Hid (scpB s = scpK (4 - k) t) ∧ Hid (Below w.heap.size w wr)) (fun _ i _ => 4 - (intOf i).toNat)
  case atStart => exact ⟨0, s, by omega, rfl, rfl, HSZ.out, HX.out, Below.refl _ _⟩
  case round =>
   clear HX
   obtain ⟨k, t, hk, rfl, rfl, HT, HS, HB⟩ := hrel
   by_cases hlt : k < 4
   ·have hd : decide ((k : Int) < 4) = true := by simp; omega
    have HC := zh (cut_slash t wr HT.out)
    have HN := zh (fun w => Name_any (ctA t) w (Nat.le_trans (ctA_size t) HT.out))
    have HT2 : Hid ((ctB t).size ≤ maxLen) := Nat.le_trans (ctB_size t) HT.out
    have HK : Hid (scpB s = (nmB (ctA t).data.toList && (!ctF t || scpK (4 - (k + 1)) (ctB t)))) := by
     show _ = _; rw [HS.out, ← scpK_ct, show 4 - k = 4 - (k + 1) + 1 from by omega]
    clear HS HT
    generalize nmB (ctA t).data.toList = nm at *
    generalize ctA t = a1 at *
    generalize ctB t = a2 at *
    generalize ctF t = f at *
    go_wp2_with fail
    refine HC.out.mono ?_
    rintro e w1 ⟨rfl, hb⟩
    have HB1 : Hid (Below w.heap.size w w1) := HB.out.trans (hb.mono HB.out.size)
    clear hb HC HB
    go_wp2_with fail
    refine (HN.out w1).mono ?_
    rintro e w2 ⟨rfl, rfl⟩
    cases nm
    ·go_wp2_with fail
     go_ret
     exact ⟨by rw [HK.out]; rfl, HB1.out⟩
    ·cases f
     ·go_wp2_with fail
      go_ret
      exact ⟨by rw [HK.out]; rfl, HB1.out⟩
     ·go_wp2_with fail
      go_roundw
      case rel => exact ⟨k + 1, a2, by omega, rfl, by go_num, HT2.out, HK.out, HB1.out⟩
      case measure => simp [intOf]; omega
   ·obtain rfl : k = 4 := by omega
    have hd : decide (((4 : Nat) : Int) < 4) = false := by simp
    have HZ : Hid (scpB s = false) := by show _ = _; rw [HS.out]; exact scpK_zero t
    clear HS
    go_wp2_with fail
    go_ret
    exact ⟨by rw [HZ.out]; rfl, HB.out⟩
def hexU (n : Nat) : UInt8 := if n < 10 then 48 + n.toUInt8 else 55 + n.toUInt8
def encB (c : UInt8) : List UInt8 := if plnB c.toNat then [c] else [37, hexU (c.toNat / 16), hexU (c.toNat % 16)]
def wordL (l : List UInt8) : List UInt8 := if l = [] then [126] else l.flatMap encB
theorem encB_plain {c : UInt8} (h : plnB c.toNat = true) : encB c = [c] := by unfold encB; rw [if_pos h]
theorem encB_esc {c : UInt8} (h : plnB c.toNat = false) : encB c = [37, hexU (c.toNat / 16), hexU (c.toNat % 16)] := by unfold encB; rw [if_neg (by rw [h]; simp)]
theorem encB_le (c : UInt8) : (encB c).length ≤ 3 := by unfold encB; split <;> simp
theorem flat_le (l : List UInt8) : (l.flatMap encB).length ≤ 3 * l.length := by
 induction l with
 | nil => simp
 | cons a t ih => have := encB_le a; simp only [List.flatMap_cons, List.length_append, List.length_cons]; omega
theorem wordL_le (l : List UInt8) : (wordL l).length ≤ 3 * l.length + 1 := by
 unfold wordL; split
 ·simp
 ·have := flat_le l; omega
theorem take_succ_data (s : ByteArray) (k : Nat) (h : k < s.size) : s.data.toList.take (k + 1) = s.data.toList.take k ++ [s[k]] := by
 rw [List.take_succ_eq_append_getElem (by simpa using h)]; rfl
theorem flat_succ (s : ByteArray) (k : Nat) (h : k < s.size) : (s.data.toList.take (k + 1)).flatMap encB = (s.data.toList.take k).flatMap encB ++ encB s[k] := by
 rw [take_succ_data s k h, List.flatMap_append]; simp
theorem take_all_data (s : ByteArray) : s.data.toList.take s.size = s.data.toList := List.take_of_length_le (by rw [← Lib.size_eq]; exact Nat.le_refl _)
theorem Tryz.info5 : (Tryz.prog.info? 5).map (fun i => (i.zero, i.size, i.bytes)) = some (some (.int .u8 0), 1, 1) := by kernel_rfl
theorem cells_of_own {w : World} {base e : Nat} {v : Value} {l : List UInt8} (h : w.ownsRow base e 1 v l.length (Lib.byteCells l)) :
 (v = .slice none 0 0 ∧ l = []) ∨ ∃ g cap, v = .slice (some ⟨g, 0, none⟩) l.length cap ∧ base ≤ g ∧ g < w.heap.size ∧ ∀ j (hj : j < l.length), w.cell? ⟨g, j, none⟩ = some (.int .u8 (l[j].toNat : Int)) := by
 obtain ⟨_, ⟨rfl, h0⟩ | ⟨g, cap, cur, rfl, hb, hg, hle, _, hsz, htk⟩⟩ := h
 ·exact .inl ⟨rfl, List.eq_nil_of_length_eq_zero h0⟩
 ·refine .inr ⟨g, cap, rfl, hb, (Array.getElem?_eq_some_iff.1 hg).1, fun j hj => ?_⟩
  rw [cell_of_row w g j cur e _ hg]
  have h1 : (cur.toList.take (l.length * 1))[j]? = some (.int .u8 (l[j].toNat : Int)) := by rw [htk]; simp [Lib.byteCells, List.getElem?_eq_getElem hj]
  rw [List.getElem?_take, if_pos (by omega)] at h1
  simpa using h1
theorem run_string_own {w : World} {base e : Nat} {v : Value} {l : List UInt8} (h : w.ownsRow base e 1 v l.length (Lib.byteCells l)) :
 (convert 22 9 v).run Tryz.prog w = .ok (.string ⟨l.toArray⟩) w := by
 rcases cells_of_own h with ⟨rfl, rfl⟩ | ⟨g, cap, rfl, _, _, hc⟩
 ·rw [run_convert_bytes_string w 22 9 5 none 0 0 Tryz.underlying22 Tryz.underlying5 Tryz.underlying9]
  kernel_rfl
 ·exact run_convert_bytes_back w 22 9 5 _ cap l Tryz.underlying22 Tryz.underlying5 Tryz.underlying9 (fun j hj => by rw [Addr.add_mid, Nat.zero_add]; exact hc j hj)
def AppRes (base : Nat) (w : World) (l : List UInt8) (e : Ending) (w' : World) : Prop := ∃ v, e = .returned v ∧ Hid (w'.ownsRow base 5 1 v l.length (Lib.byteCells l)) ∧ Below base w w'
theorem hex_index (n : Nat) (h : n < 16) (w : World) : (Instr.index 9 (.string ⟨#[48, 49, 50, 51, 52, 53, 54, 55, 56, 57, 65, 66, 67, 68, 69, 70]⟩) (.int .u8 (n : Int))).run Tryz.prog w = .ok (.int .u8 ((hexU n).toNat : Int)) w := by
 rcases (by omega : n = 0 ∨ n = 1 ∨ n = 2 ∨ n = 3 ∨ n = 4 ∨ n = 5 ∨ n = 6 ∨ n = 7 ∨ n = 8 ∨ n = 9 ∨ n = 10 ∨ n = 11 ∨ n = 12 ∨ n = 13 ∨ n = 14 ∨ n = 15) with rfl | rfl | rfl | rfl | rfl | rfl | rfl | rfl | rfl | rfl | rfl | rfl | rfl | rfl | rfl | rfl <;> kernel_rfl
theorem cells_newD (w : World) (L : List Value) (t : TypeId) : ∀ j u, L[j]? = some u → ((w.alloc (.cells L.toArray t)).drew).cell? ((⟨w.heap.size, 0, none⟩ : Addr).add j) = some u := by
 intro j u hj
 have h : ((w.alloc (.cells L.toArray t)).drew).heap[w.heap.size]? = some (.cells L.toArray t (0, 0)) := heap_alloc_new w _
 rw [Addr.add_mid, Nat.zero_add, cell_of_row _ w.heap.size j _ t (0, 0) h]
 simpa using hj
theorem step_append_own {P : Program} {w : World} {ops : Array Oper} {o : Oper} {a : Act} {K : Act → World → Prop} {Q : Exit → Act → World → Prop} {E : Prop} (hgd : o.guard = none) (s x : Operand) (t : TypeId)
 (ho : o.op = .call { callee := .builtin .append, args := #[s, x], argTypes := #[t, t] })
 (base : Nat) (e : TypeId) (i : TypeInfo) (z : Value) (size bytes : Nat) (ht : P.underlying t = some (.slice e)) (hi : P.info? e = some i) (hz : i.zero = some z)
 (hsize : i.size = size) (hby : i.bytes = bytes) (hzs : z.cells.size = size) (hsz : 0 < size)
 (v : Value) (n : Nat) (xs : List Value) (hs : a.eval s = v) (hown : w.ownsRow base e size v n xs)
 (ad : Addr) (m c : Nat) (news : List Value) (hx : a.eval x = .slice (some ad) m c) (hl : news.length = m * size) (hnews : ∀ j u, news[j]? = some u → w.cell? (ad.add j) = some u) (h1 : ∀ u ∈ news, u.oneCell' = true)
 (h63 : n + m ≤ maxLen) (hbytes : (n + m) * bytes ≤ 140737488355328) (hbase : base ≤ w.heap.size)
 (h : ∀ v' w', w'.ownsRow base e size v' (n + m) (xs ++ news) → w.grownBy w' v.ownBlock → (v' = .slice none 0 0 ↔ v = .slice none 0 0 ∧ m = 0) → K (a.put o.dst v') w') :
 if Region.wanted o (yielded ops a.tmps) = true then Oper.wp P o a w K Q else E := by
 have hw : Region.wanted o (yielded ops a.tmps) = true := by simp [Region.wanted, hgd]
 rw [if_pos hw]
 exact wp_append_own w s x t ho base e i z size bytes ht hi hz hsize hby hzs hsz v n xs hs hown ad m c news hx hl hnews h1 h63 hbytes hbase h
theorem and15F : ∀ c : Fin 256, bits .and .u8 (c.val : Int) 15 = (c.val : Int) % 16 := by decide +kernel
theorem and15 (c : UInt8) : bits .and .u8 (c.toNat : Int) 15 = (c.toNat : Int) % 16 := and15F ⟨c.toNat, UInt8.toNat_lt _⟩
theorem own_base {w : World} {base e size : Nat} {v : Value} {n : Nat} {xs : List Value} (h : w.ownsRow base e size v n xs) : ∀ k, v.ownBlock = some k → base ≤ k := fun k hk => (h.lt k hk).1
theorem appendWord_any (base : Nat) (v : Value) (xs : List UInt8) (s : ByteArray) (w : World) (hown : w.ownsRow base 5 1 v xs.length (Lib.byteCells xs)) (hbase : base ≤ w.heap.size) (hlen : xs.length + 3 * s.size + 1 ≤ 1099511627776) :
 Calls Tryz.prog 77 #[v, .string s] w (AppRes base w (xs ++ wordL s.data.toList)) := by
 have HOWN := zh hown; clear hown
 obtain ⟨i0, hi0, hz0, hz1, hz2⟩ := info_parts Tryz.info5
 have HI0 := zh hi0; have HZ0 := zh hz0; have HZ1 := zh hz1; have HZ2 := zh hz2
 clear hi0 hz0 hz1 hz2
 by_cases h0 : s.size = 0
 ·have e0 : s.toList = [] := by rw [Lib.toList_data]; exact List.eq_nil_of_length_eq_zero (by rw [← Lib.size_eq]; exact h0)
  have HW := zh (show wordL s.data.toList = [126] by rw [← Lib.toList_data, e0]; rfl)
  generalize wordL s.data.toList = wl at *
  clear h0
  go_enter Tryz.func77, Tryz.ntmps77
  go_wp2_with (at_builtin; (refine Lib.wpList_append_own_string _ rfl (.tmp 9) (.const (.string ⟨#[126]⟩)) 22 9 rfl base 5 i0 Tryz.underlying22 Tryz.underlying9 HI0.out HZ0.out HZ1.out HZ2.out _ _ _ rfl HOWN.out ⟨#[126]⟩ rfl (by unfold maxLen; show xs.length + 1 ≤ _; omega) (by show xs.length + 1 ≤ _; omega) hbase ?_; intro v' w1 hown1 hg1 _; have HO1 := zh hown1; clear hown1))
  go_ret
  refine ⟨v', rfl, ?_, (Below.refl _ _).grown hg1 hbase (own_base HOWN.out)⟩
  rw [HW.out]
  have := HO1.out
  rw [show (⟨#[126]⟩ : ByteArray).size = 1 from rfl] at this
  show World.ownsRow _ _ _ _ _ _ _
  simpa [Lib.byteCells_append, Lib.strCells_eq] using this
 ·have e0 : s.toList.isEmpty = false := by
   rw [Lib.toList_data, List.isEmpty_eq_false_iff]
   intro h; rw [Lib.size_eq, h] at h0; simp at h0
  have HW := zh (show wordL s.data.toList = (s.data.toList.take s.size).flatMap encB by
   unfold wordL; rw [take_all_data, if_neg (by intro h; rw [Lib.size_eq, h] at h0; simp at h0)])
  generalize wordL s.data.toList = wl at *
  clear h0
  go_enter Tryz.func77, Tryz.ntmps77
  go_wp2_with fail
  go_loopw [0, 13] (fun b i wr => ∃ k : Nat, k ≤ s.size ∧ i = .int .i64 k ∧ Hid (wr.ownsRow base 5 1 b (xs ++ (s.data.toList.take k).flatMap encB).length (Lib.byteCells (xs ++ (s.data.toList.take k).flatMap encB))) ∧ Below base w wr) (fun _ i _ => s.size - (intOf i).toNat)
  case atStart => exact ⟨0, by omega, rfl, by show World.ownsRow _ _ _ _ _ _ _; simpa using HOWN.out, Below.refl _ _⟩
  case round =>
   obtain ⟨k, hk, rfl, hown, hbe⟩ := hrel
   by_cases hlt : k < s.size
   ·have HS := zh (flat_succ s k hlt)
    have hle := flat_le (s.data.toList.take k)
    have hle2 : (s.data.toList.take k).length ≤ k := List.length_take_le _ _
    have hbs := Nat.le_trans hbase hbe.size
    generalize (s.data.toList.take k).flatMap encB = fl at *
    clear HOWN
    cases hp : plnB (s[k].toNat)
    ·have HK := zh (encB_esc hp)
     have HP := zh hp; clear hp
     have hc256 : s[k].toNat < 256 := UInt8.toNat_lt _
     have hx1 := hex_index (s[k].toNat / 16) (by omega)
     have hx2 := hex_index (s[k].toNat % 16) (by omega)
     rw [show ((s[k].toNat / 16 : Nat) : Int) = (s[k].toNat : Int) / 16 by omega] at hx1
     rw [show ((s[k].toNat % 16 : Nat) : Int) = (s[k].toNat : Int) % 16 by omega] at hx2
     have hand := and15 s[k]
     go_wp2_with (go_at_call 114; refine (plain_any _ _).mono ?_; rintro e w' ⟨rfl, rfl⟩; rw [HP.out])
     go_region_held3 (fun _ => True) (trivial) ((refine step_append_own rfl (.tmp 25) (.tmp 32) 22 (by rfl) base 5 i0 (.int .u8 0) 1 1 Tryz.underlying22 HI0.out HZ0.out HZ1.out HZ2.out rfl (by decide) _ _ _ (by rfl) (by exact (hown.out.alloc _).drew) ⟨wr.heap.size, 0, none⟩ 3 3 (Lib.byteCells [37, hexU (s[k].toNat / 16), hexU (s[k].toNat % 16)]) (by rfl) (by rfl) (by exact cells_newD _ _ _) (Lib.byteCells_one _) (by unfold maxLen; simp only [List.length_append]; omega) (by simp only [List.length_append]; omega) (by simp; omega) ?_; intro v' w1 hown1 hg1 _; have HO1 := zh hown1; clear hown1))
     all_goals
      go_wp2
      go_roundw
      case rel =>
       refine ⟨k + 1, by omega, by go_num, ?_, ?_⟩
       ·rw [HS.out, HK.out]
        have := HO1.out
        show World.ownsRow _ _ _ _ _ _ _
        simpa [Lib.byteCells_append, Lib.byteCells, Nat.add_assoc] using this
       ·exact ((hbe.alloc hbs _).drew).grown hg1 (by simp; omega) (own_base hown.out)
      case measure => simp [intOf]; omega
    ·have HK := zh (encB_plain hp)
     have HP := zh hp; clear hp
     go_wp2_with (first
      | (go_at_call 114; refine (plain_any _ _).mono ?_; rintro e w' ⟨rfl, rfl⟩; rw [HP.out])
      | (at_builtin; refine wpList_append_own _ rfl (.tmp 21) (.tmp 23) 22 rfl base 5 i0 (.int .u8 0) 1 1 Tryz.underlying22 HI0.out HZ0.out HZ1.out HZ2.out rfl (by decide) _ _ _ rfl (hown.out.alloc _) ⟨wr.heap.size, 0, none⟩ 1 1 [.int .u8 (s[k].toNat : Int)] rfl rfl (cell_one_new _ _ _) (by intro u hu; simp at hu; subst hu; rfl) (by unfold maxLen; simp only [List.length_append]; omega) (by simp only [List.length_append]; omega) (by simp; omega) ?_; intro v' w1 hown1 hg1 _; have HO1 := zh hown1; clear hown1))
     go_roundw
     case rel =>
      refine ⟨k + 1, by omega, by go_num, ?_, ?_⟩
      ·rw [HS.out, HK.out]
       have := HO1.out
       show World.ownsRow _ _ _ _ _ _ _
       simpa [Lib.byteCells_append, Lib.byteCells, Nat.add_assoc] using this
      ·exact (hbe.alloc hbs _).grown hg1 (by simp; omega) (own_base hown.out)
     case measure => simp [intOf]; omega
   ·obtain rfl : k = s.size := by omega
    go_wp2
    go_ret
    exact ⟨u0, rfl, by rw [HW.out]; exact hown, hbe⟩
structure StrsIn (w : World) (B : Nat) (sp : Option Addr) (n : Nat) (l : List ByteArray) : Prop where
 len : l.length = n
 cells : 0 < n → ∃ b off, sp = some ⟨b, off, none⟩ ∧ b < B ∧ ∀ j (hj : j < l.length), w.cell? ⟨b, off + j, none⟩ = some (.string l[j])
theorem StrsIn.below {w w' : World} {B B' : Nat} {sp : Option Addr} {n : Nat} {l : List ByteArray} (h : StrsIn w B sp n l) (hb : Below B' w w') (hB : B ≤ B') : StrsIn w' B sp n l :=
 ⟨h.len, fun hn => by
  obtain ⟨b, off, e, hlt, hc⟩ := h.cells hn
  exact ⟨b, off, e, hlt, fun j hj => (hb.cell (p := ⟨b, off + j, none⟩) (by show b < B'; omega)).trans (hc j hj)⟩⟩
theorem StrsIn.more {w : World} {B B' : Nat} {sp : Option Addr} {n : Nat} {l : List ByteArray} (h : StrsIn w B sp n l) (hB : B ≤ B') : StrsIn w B' sp n l :=
 ⟨h.len, fun hn => by
  obtain ⟨b, off, e, hlt, hc⟩ := h.cells hn
  exact ⟨b, off, e, by omega, hc⟩⟩
structure Ln where
 sp : Option Addr
 n : Nat
 cap : Nat
 l : List ByteArray
def Ln.val (q : Ln) : Value := .slice q.sp q.n q.cap
structure LinesIn (w : World) (B : Nat) (pa : Option Addr) (np : Nat) (ls : List Ln) : Prop where
 len : ls.length = np
 cells : 0 < np → ∃ pb po, pa = some ⟨pb, po, none⟩ ∧ pb < B ∧ ∀ j (hj : j < ls.length), w.cell? ⟨pb, po + j, none⟩ = some ls[j].val
 each : ∀ q ∈ ls, StrsIn w B q.sp q.n q.l
theorem LinesIn.below {w w' : World} {B B' : Nat} {pa : Option Addr} {np : Nat} {ls : List Ln} (h : LinesIn w B pa np ls) (hb : Below B' w w') (hB : B ≤ B') : LinesIn w' B pa np ls :=
 ⟨h.len, fun hn => by
  obtain ⟨pb, po, e, hlt, hc⟩ := h.cells hn
  exact ⟨pb, po, e, hlt, fun j hj => (hb.cell (p := ⟨pb, po + j, none⟩) (by show pb < B'; omega)).trans (hc j hj)⟩, fun q hq => (h.each q hq).below hb hB⟩
theorem LinesIn.more {w : World} {B B' : Nat} {pa : Option Addr} {np : Nat} {ls : List Ln} (h : LinesIn w B pa np ls) (hB : B ≤ B') : LinesIn w B' pa np ls :=
 ⟨h.len, fun hn => by
  obtain ⟨pb, po, e, hlt, hc⟩ := h.cells hn
  exact ⟨pb, po, e, by omega, hc⟩, fun q hq => (h.each q hq).more hB⟩
def lng (s : ByteArray) : Bool := decide (32768 < s.size)
def chkLine (l : List ByteArray) : Nat := if l.length = 0 then 1 else if 120 < l.length ∨ l.any lng = true then 3 else 0
def firstBad : List (List ByteArray) → Nat
 | [] => 0
 | l :: r => if chkLine l = 0 then firstBad r else chkLine l
def chk (ls : List (List ByteArray)) : Nat := if 1000 < ls.length then 3 else firstBad ls
theorem firstBad_append (a b : List (List ByteArray)) (h : firstBad a = 0) : firstBad (a ++ b) = firstBad b := by
 induction a with
 | nil => rfl
 | cons x t ih =>
   unfold firstBad at h
   by_cases hx : chkLine x = 0
   ·rw [if_pos hx] at h
    show (if chkLine x = 0 then firstBad (t ++ b) else chkLine x) = firstBad b
    rw [if_pos hx]; exact ih h
   ·rw [if_neg hx] at h; exact absurd h hx
theorem firstBad_take (ls : List (List ByteArray)) (k : Nat) (hk : k < ls.length) (h : firstBad (ls.take k) = 0) :
 (chkLine ls[k] = 0 → firstBad (ls.take (k + 1)) = 0) ∧ (chkLine ls[k] ≠ 0 → firstBad ls = chkLine ls[k]) := by
 constructor
 ·intro hc
  rw [List.take_succ_eq_append_getElem hk, firstBad_append _ _ h]
  unfold firstBad; rw [if_pos hc]; rfl
 ·intro hc
  have e : ls = ls.take k ++ ls[k] :: ls.drop (k + 1) := by
   rw [← List.drop_eq_getElem_cons hk, List.take_append_drop]
  conv => lhs; rw [e]
  rw [firstBad_append _ _ h]
  unfold firstBad; rw [if_neg hc]
theorem firstBad_all {ls : List (List ByteArray)} (h : firstBad ls = 0) : ∀ l ∈ ls, chkLine l = 0 := by
 induction ls with
 | nil => intro l hl; cases hl
 | cons x t ih =>
   unfold firstBad at h
   by_cases hx : chkLine x = 0
   ·rw [if_pos hx] at h
    intro l hl
    rcases List.mem_cons.1 hl with rfl | hl
    ·exact hx
    ·exact ih h l hl
   ·rw [if_neg hx] at h; exact absurd h hx
theorem chkLine_ok {l : List ByteArray} (h : chkLine l = 0) : 0 < l.length ∧ l.length ≤ 120 ∧ ∀ s ∈ l, s.size ≤ 32768 := by
 unfold chkLine at h
 by_cases h0 : l.length = 0
 ·rw [if_pos h0] at h; cases h
 ·rw [if_neg h0] at h
  by_cases h1 : 120 < l.length ∨ l.any lng = true
  ·rw [if_pos h1] at h; cases h
  ·have h2 : ¬ 120 < l.length := fun h => h1 (.inl h)
   refine ⟨by omega, by omega, fun s hs => ?_⟩
   rcases Nat.lt_or_ge 32768 s.size with hlt | hge
   ·exact absurd (.inr (List.any_eq_true.2 ⟨s, hs, by unfold lng; exact decide_eq_true hlt⟩)) h1
   ·exact hge
def body (l : List ByteArray) : List UInt8 := l.flatMap fun s => wordL s.data.toList ++ [32]
def lineL (l : List ByteArray) : List UInt8 := (body l).dropLast ++ [10]
def encL (ls : List (List ByteArray)) : List UInt8 := ls.flatMap lineL
def enc (ls : List (List ByteArray)) : Nat × List UInt8 :=
 if chk ls = 0 then (if 262144 < (encL ls).length then (3, []) else (0, encL ls)) else (chk ls, [])
theorem body_succ (l : List ByteArray) (k : Nat) (hk : k < l.length) : body (l.take (k + 1)) = body (l.take k) ++ (wordL l[k].data.toList ++ [32]) := by
 unfold body; rw [List.take_succ_eq_append_getElem hk, List.flatMap_append]; simp
theorem encL_succ (ls : List (List ByteArray)) (k : Nat) (hk : k < ls.length) : encL (ls.take (k + 1)) = encL (ls.take k) ++ lineL ls[k] := by
 unfold encL; rw [List.take_succ_eq_append_getElem hk, List.flatMap_append]; simp
theorem wordL_pos (l : List UInt8) : 0 < (wordL l).length := by
 unfold wordL
 split
 ·simp
 ·rename_i h
  cases l with
  | nil => exact absurd rfl h
  | cons a t =>
    simp only [List.flatMap_cons, List.length_append]
    have : 0 < (encB a).length := by unfold encB; split <;> simp
    omega
theorem body_pos {l : List ByteArray} (h : 0 < l.length) : 0 < (body l).length := by
 cases l with
 | nil => cases h
 | cons a t => unfold body; simp only [List.flatMap_cons, List.length_append]; have := wordL_pos a.data.toList; omega
theorem body_last {l : List ByteArray} (h : 0 < l.length) : body l = (body l).dropLast ++ [32] := by
 obtain ⟨k, hk⟩ : ∃ k, l.length = k + 1 := ⟨l.length - 1, by omega⟩
 have e := body_succ l k (by omega)
 rw [List.take_of_length_le (by omega)] at e
 rw [e, ← List.append_assoc, List.dropLast_concat]
theorem body_mono (l : List ByteArray) (k : Nat) : (body (l.take k)).length ≤ (body l).length := by
 have e : body l = body (l.take k) ++ body (l.drop k) := by
  unfold body; rw [← List.flatMap_append, List.take_append_drop]
 rw [e, List.length_append]; omega
theorem encL_mono (ls : List (List ByteArray)) (k : Nat) : (encL (ls.take k)).length ≤ (encL ls).length := by
 have e : encL ls = encL (ls.take k) ++ encL (ls.drop k) := by
  unfold encL; rw [← List.flatMap_append, List.take_append_drop]
 rw [e, List.length_append]; omega
theorem lineL_length {l : List ByteArray} (h : 0 < l.length) : (lineL l).length = (body l).length := by
 unfold lineL; rw [body_last h]; simp
theorem set_last {xs bs : List UInt8} (h : 0 < bs.length) (c : UInt8) : (xs ++ bs).set (xs.length + bs.length - 1) c = xs ++ (bs.dropLast ++ [c]) := by
 rw [List.set_append_right _ _ (by omega)]
 congr 1
 have e : xs.length + bs.length - 1 - xs.length = bs.dropLast.length := by rw [List.length_dropLast]; omega
 obtain ⟨ys, y, rfl⟩ : ∃ ys y, bs = ys ++ [y] := ⟨bs.dropLast, bs.getLast (List.ne_nil_of_length_pos h), (List.dropLast_concat_getLast _).symm⟩
 rw [e, List.dropLast_concat, List.set_append_right _ _ (Nat.le_refl _), Nat.sub_self]
 rfl
def wordsOf (ls : List Ln) : List (List ByteArray) := ls.map Ln.l
theorem wordsOf_length (ls : List Ln) : (wordsOf ls).length = ls.length := by simp [wordsOf]
theorem wordsOf_get (ls : List Ln) (k : Nat) (hk : k < ls.length) : (wordsOf ls)[k]'(by rw [wordsOf_length]; exact hk) = ls[k].l := by simp [wordsOf]
def IdxRes (l : List ByteArray) (w : World) (e : Ending) (w' : World) : Prop := ∃ i : Int, e = .returned (.int .i64 i) ∧ Hid (decide (0 ≤ i) = l.any lng) ∧ w = w'
theorem any_take_succ (l : List ByteArray) (k : Nat) (hk : k < l.length) (h : (l.take k).any lng = false) (hc : lng l[k] = false) : (l.take (k + 1)).any lng = false := by
 rw [List.take_succ_eq_append_getElem hk, List.any_append, h]; simp [hc]
theorem any_of (l : List ByteArray) (k : Nat) (hk : k < l.length) (hc : lng l[k] = true) : l.any lng = true := List.any_eq_true.2 ⟨l[k], List.getElem_mem _, hc⟩
theorem indexFunc_any (sp : Option Addr) (n cap : Nat) (l : List ByteArray) (w : World) (hl : StrsIn w w.heap.size sp n l) (hmax : n ≤ 9223372036854775807) :
 Calls Tryz.prog 123 #[.slice sp n cap, .func (.func 102) #[] #[]] w (IdxRes l w) := by
 have HL := zh hl; clear hl
 go_enter Tryz.func123, Tryz.ntmps123
 go_wp2_with fail
 go_loop [8] (fun i => ∃ k : Nat, k ≤ n ∧ i = .int .i64 k ∧ Hid ((l.take k).any lng = false)) (fun i => n - (intOf i).toNat)
 case atStart => exact ⟨0, by omega, rfl, by show _ = false; simp⟩
 case round =>
  obtain ⟨k, hk, rfl, HA⟩ := hrel
  by_cases hlt : k < n
  ·obtain ⟨b, off, rfl, hb, hcell⟩ := HL.out.cells (by omega)
   have hk2 : k < l.length := by have := HL.out.len; omega
   have ck := hcell k hk2
   clear hcell
   have HN := zh (any_take_succ l k hk2 HA.out)
   have HY := zh (any_of l k hk2)
   have HD := zh (show lng l[k] = decide (32768 < (l[k]).size) from rfl)
   generalize l[k] = s at *
   cases hd : decide (32768 < s.size)
   ·rw [hd] at HD
    have HD2 := zh hd; clear hd
    go_wp2_with (go_at_call 102; refine (tooLong_any _ _).mono ?_; rintro e w' ⟨rfl, rfl⟩; rw [HD2.out])
    go_round
    case rel => exact ⟨k + 1, by omega, by go_num, HN.out HD.out⟩
    case measure => simp [intOf]; omega
   ·rw [hd] at HD
    have HD2 := zh hd; clear hd
    go_wp2_with (go_at_call 102; refine (tooLong_any _ _).mono ?_; rintro e w' ⟨rfl, rfl⟩; rw [HD2.out])
    go_ret
    exact ⟨(k : Int), rfl, by show _ = _; rw [HY.out HD.out]; simp, rfl⟩
  ·obtain rfl : k = n := by omega
   go_wp2
   go_ret
   exact ⟨-1, rfl, by show _ = _; rw [List.take_of_length_le (by rw [HL.out.len]; exact Nat.le_refl _)] at HA; rw [HA.out]; rfl, rfl⟩
theorem containsFunc_any (sp : Option Addr) (n cap : Nat) (l : List ByteArray) (w : World) (hl : StrsIn w w.heap.size sp n l) (hmax : n ≤ 9223372036854775807) :
 Calls Tryz.prog 101 #[.slice sp n cap, .func (.func 102) #[] #[]] w fun e w' => e = .returned (.bool (l.any lng)) ∧ w = w' := by
 have HC := zh (indexFunc_any sp n cap l w hl hmax)
 clear hl
 go_enter Tryz.func101, Tryz.ntmps101
 go_wp2_with (go_at_call 123; refine HC.out.mono ?_; rintro e w' ⟨i, rfl, hi, rfl⟩)
 go_ret
 exact ⟨ret_bool hi.out, rfl⟩
theorem chk_many {ls : List Ln} (h : 1000 < ls.length) : chk (wordsOf ls) = 3 := by unfold chk; rw [if_pos (by rw [wordsOf_length]; exact h)]
theorem chk_few {ls : List Ln} (h : ¬ 1000 < ls.length) : chk (wordsOf ls) = firstBad (wordsOf ls) := by unfold chk; rw [if_neg (by rw [wordsOf_length]; exact h)]
theorem chkLine_zero {l : List ByteArray} (h : l.length = 0) : chkLine l = 1 := by unfold chkLine; rw [if_pos h]
theorem chkLine_wide {l : List ByteArray} (h : 120 < l.length) : chkLine l = 3 := by unfold chkLine; rw [if_neg (by omega), if_pos (.inl h)]
theorem chkLine_long {l : List ByteArray} (h0 : l.length ≠ 0) (h : l.any lng = true) : chkLine l = 3 := by unfold chkLine; rw [if_neg h0, if_pos (.inr h)]
theorem chkLine_good {l : List ByteArray} (h0 : l.length ≠ 0) (h1 : ¬ 120 < l.length) (h : l.any lng = false) : chkLine l = 0 := by
 unfold chkLine; rw [if_neg h0, if_neg (by rw [h]; simp; omega)]
theorem checkLines_any (pa : Option Addr) (np ncap : Nat) (ls : List Ln) (w : World) (hp : LinesIn w w.heap.size pa np ls) (hmax : np ≤ 9223372036854775807) (hmax2 : ∀ q ∈ ls, q.n ≤ 9223372036854775807) :
 Calls Tryz.prog 61 #[.slice pa np ncap] w fun e w' => e = .returned (.int .i64 (chk (wordsOf ls))) ∧ w = w' := by
 have HP := zh hp; have HM := zh hmax2; clear hp hmax2
 have HLEN := zh HP.out.len
 by_cases hbig : 1000 < np
 ·have HC := zh (chk_many (ls := ls) (by rw [HLEN.out]; exact hbig))
  generalize chk (wordsOf ls) = r at *
  go_enter Tryz.func61, Tryz.ntmps61
  go_wp2
  go_ret
  exact ⟨ret_int (by rw [HC.out]; rfl), rfl⟩
 ·have HC := zh (chk_few (ls := ls) (by rw [HLEN.out]; exact hbig))
  generalize chk (wordsOf ls) = r at *
  go_enter Tryz.func61, Tryz.ntmps61
  go_wp2_with fail
  go_loop [10] (fun i => ∃ k : Nat, k ≤ np ∧ i = .int .i64 k ∧ Hid (firstBad ((wordsOf ls).take k) = 0)) (fun i => np - (intOf i).toNat)
  case atStart => exact ⟨0, by omega, rfl, by show _ = _; simp [firstBad]⟩
  case round =>
   obtain ⟨k, hk, rfl, HA⟩ := hrel
   by_cases hlt : k < np
   ·have hk2 : k < ls.length := by rw [HLEN.out]; exact hlt
    obtain ⟨pb, po, rfl, hpb, hcell⟩ := HP.out.cells (by omega)
    have ck : w.cell? ⟨pb, po + k, none⟩ = some (.slice ls[k].sp ls[k].n ls[k].cap) := hcell k hk2
    have HE := zh (HP.out.each _ (List.getElem_mem hk2))
    have hmx := HM.out _ (List.getElem_mem hk2)
    have hfb := firstBad_take (wordsOf ls) k (by rw [wordsOf_length]; exact hk2) HA.out
    rw [wordsOf_get ls k hk2] at hfb
    have HF := zh hfb
    have hl := HE.out.len
    clear hcell hfb
    generalize ls[k].sp = sp at *
    generalize ls[k].n = n at *
    generalize ls[k].cap = cap at *
    generalize ls[k].l = l at *
    have HLL := zh hl; clear hl
    by_cases h0 : n = 0
    ·subst h0
     have HK := zh (chkLine_zero HLL.out)
     go_wp2_with fail
     go_ret
     exact ⟨ret_int (by rw [HC.out, HF.out.2 (by rw [HK.out]; decide), HK.out]; rfl), rfl⟩
    ·have h0b : ((n : Int) == 0) = false := beq_eq_false_iff_ne.2 (by omega)
     by_cases h1 : 120 < n
     ·have HK := zh (chkLine_wide (l := l) (by rw [HLL.out]; exact h1))
      clear h0
      go_wp2_with fail
      go_ret
      exact ⟨ret_int (by rw [HC.out, HF.out.2 (by rw [HK.out]; decide), HK.out]; rfl), rfl⟩
     ·cases ha : l.any lng
      ·have HK := zh (chkLine_good (l := l) (by rw [HLL.out]; exact h0) (by rw [HLL.out]; exact h1) ha)
       have HA2 := zh ha; clear ha h0
       go_wp2_with (go_at_call 101; refine (containsFunc_any _ _ _ l _ HE.out hmx).mono ?_; rintro e w' ⟨rfl, rfl⟩; rw [HA2.out])
       go_round
       case rel => exact ⟨k + 1, by omega, by go_num, HF.out.1 HK.out⟩
       case measure => simp [intOf]; omega
      ·have HK := zh (chkLine_long (l := l) (by rw [HLL.out]; exact h0) ha)
       have HA2 := zh ha; clear ha h0
       go_wp2_with (go_at_call 101; refine (containsFunc_any _ _ _ l _ HE.out hmx).mono ?_; rintro e w' ⟨rfl, rfl⟩; rw [HA2.out])
       go_ret
       exact ⟨ret_int (by rw [HC.out, HF.out.2 (by rw [HK.out]; decide), HK.out]; rfl), rfl⟩
   ·obtain rfl : k = np := by omega
    go_wp2
    go_ret
    exact ⟨ret_int (by rw [HC.out]; rw [List.take_of_length_le (by rw [wordsOf_length, HLEN.out]; exact Nat.le_refl _)] at HA; rw [HA.out]; rfl), rfl⟩
end Go.Proofs.YtecllfbadciaoaaGreatDoor
