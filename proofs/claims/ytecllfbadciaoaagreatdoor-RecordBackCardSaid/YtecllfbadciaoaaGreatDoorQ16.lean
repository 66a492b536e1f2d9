/-
  The walk of RecordScopes, and of the check awake of its package (condition: the table of powers of ten reads as it is laid).
-/
import Derived.Test.YtecllfbadciaoaaGreatDoorZip
import Derived.Test.YtecllfbadciaoaaGreatDoorQ15
import Derived.Laws.Entries
set_option maxRecDepth 100000
set_option maxHeartbeats 8000000
namespace Go.Proofs.YtecllfbadciaoaaGreatDoor
open Go.RowKit
theorem wpList_load_mid_gR {P : Program} {ops : Array Oper} {rest : List Oper} {o : Oper} {a : Act} {w : World} {Q : Exit → Act → World → Prop} (hw : Region.wanted o (yielded ops a.tmps) = true) (ty : TypeId) (x : Operand) (ho : o.op = .load ty x)
 (b k : Nat) (hx : a.eval x = .pointer (some ⟨b, k, none⟩)) (cs : List Value) (d : TypeDesc) (hc : w.rangeAt b k cs)
 (hu : P.underlying ty = some d) (hd : d.isRow = true) (hi : (P.info? ty).map (·.size) = some cs.length)
 (h : wpList P ops Q rest (a.put o.dst (.agg cs.toArray)) w) : wpList P ops Q (o :: rest) a w :=
 wpList_step fun K hK => by rw [if_pos hw]; exact wp_load_mid ty x ho b k hx cs d hc hu hd hi (hK _ _ h)
theorem row_rngR {w : World} {g : Nat} {L : List Value} {t : TypeId} {fr : Nat × Nat} (hg : w.heap[g]? = some (.cells L.toArray t fr)) : w.rangeAt g 0 L := fun j v hv => by rw [Nat.zero_add]; exact heap_cellR hg hv
theorem awake12_any (w : World) (ht : Lib.TabIs Tryz.prog w "internal/strconv.uint64pow10" .u64 Lib.pow10Tab) (hg : 1 < w.heap.size) :
 Calls Tryz.prog 11 #[] w fun e w' => e = .returned (.bool true) ∧ Below w.heap.size w w' := by
 have HT := zh ht
 have HSC : Hid (scpB ⟨#[97, 47, 98]⟩ = true) := by show _ = _; decide +kernel
 have hB := buildR0 w
 go_enter Tryz.func11, Tryz.ntmps11
 go_upto_region 2 with (refine wpList_store_row rfl 31 _ _ rfl w.heap.size r0L.toArray rfl rfl 31 _ (heap_alloc_new w _) infoR0A rfl oneR0 ?_; rw [setRow_new])
 generalize hw0 : World.alloc w _ = w0
 have HR0 : Hid (w0.heap[w.heap.size]? = some (.cells r0L.toArray 31 (0, 0))) := by rw [← hw0]; exact heap_alloc_new _ _
 have HB0 : Hid (Below w.heap.size w w0) := by rw [← hw0]; exact (Below.refl _ _).alloc (Nat.le_refl _) _
 have hlt : w.heap.size < w0.heap.size := by rw [← hw0]; simp
 clear hw0 hB
 have HE := zh (encode0_any w0 (tabIs_belowR HT.out HB0.out hg) (Nat.lt_trans hg hlt))
 go_wp2_with (refine wpList_load_row rfl 31 _ rfl w.heap.size rfl 31 _ (0, 0) _ HR0.out Tryz.underlying31 rfl infoR0A ?_)
 refine HE.out.mono ?_
 rintro e w1 ⟨v, rfl, hown, hb⟩
 have hcv := run_string_own hown.out
 have HR1 := zh (row_rngR ((hb.block _ hlt).trans HR0.out))
 have HB1 : Hid (Below w.heap.size w w1) := HB0.out.trans (hb.mono HB0.out.size)
 have hlt1 : w.heap.size < w1.heap.size := by have := hb.size; omega
 clear hown hb HR0 HB0 hlt HE HT ht hg
 have HBS : Hid ((⟨bs0.toArray⟩ : ByteArray) = ⟨#[114, 101, 99, 111, 114, 100, 32, 114, 32, 126, 32, 115, 32, 51, 10, 99, 111, 109, 109, 97, 110, 100, 10]⟩) := rfl
 rw [HBS.out] at hcv
 go_wp2_with (refine wpList_load_mid_gR (by rfl) 31 _ rfl w.heap.size 0 rfl _ _ HR1.out Tryz.underlying31 rfl infoR0 ?_)
 refine (valid0_any w1).mono ?_
 rintro e w2 ⟨rfl, hb⟩
 have HB2 : Hid (Below w.heap.size w w2) := HB1.out.trans (hb.mono HB1.out.size)
 clear hb hcv HR1 HB1 hlt1
 go_wp2_with fail
 refine (Scope_any ⟨#[97, 47, 98]⟩ w2 (by decide)).mono ?_
 rintro e w3 ⟨rfl, hb⟩
 rw [HSC.out]
 have HB3 : Hid (Below w.heap.size w w3) := HB2.out.trans (hb.mono HB2.out.size)
 clear hb
 go_wp2_with fail
 go_ret
 exact ⟨rfl, HB3.out⟩
def hexD : List UInt8 := [48, 49, 50, 51, 52, 53, 54, 55, 56, 57, 65, 66, 67, 68, 69, 70]
def hexV (c : UInt8) : Nat := if 48 ≤ c.toNat ∧ c.toNat ≤ 57 then c.toNat - 48 else if 65 ≤ c.toNat ∧ c.toNat ≤ 70 then c.toNat - 55 else 16
theorem hexV_le (c : UInt8) : hexV c ≤ 16 := by unfold hexV; split <;> (try split) <;> omega
theorem index_hexF : ∀ c : Fin 256, Lib.indexByte hexD (UInt8.ofNat c.val) = if hexV (UInt8.ofNat c.val) = 16 then -1 else (hexV (UInt8.ofNat c.val) : Int) := by decide +kernel
theorem index_hex (c : UInt8) : Lib.indexByte hexD c = if hexV c = 16 then -1 else (hexV c : Int) := by
 have h := index_hexF ⟨c.toNat, UInt8.toNat_lt _⟩
 simpa using h
def escV (a b : UInt8) : Option UInt8 :=
 if hexV a = 16 ∨ hexV b = 16 then none else if plnB ((16 * hexV a + hexV b : Nat) : Int) then none else some (UInt8.ofNat (16 * hexV a + hexV b))
def escD : List UInt8 → Option UInt8
 | a :: b :: _ => escV a b
 | _ => none
def unwL : List UInt8 → Option (List UInt8)
 | [] => some []
 | [c] => if plnB c.toNat then some [c] else none
 | [c, d] => if plnB c.toNat then (unwL [d]).map (c :: ·) else none
 | c :: a :: b :: r =>
   if plnB c.toNat then (unwL (a :: b :: r)).map (c :: ·)
   else if c = 37 then (match escV a b with | some v => (unwL r).map (v :: ·) | none => none) else none
def unword (l : List UInt8) : Option (List UInt8) := if l = [] then none else if l = [126] then some [] else unwL l
theorem pln_37 : plnB 37 = false := by decide
theorem unwL_plain {c : UInt8} (h : plnB c.toNat = true) (t : List UInt8) : unwL (c :: t) = (unwL t).map (c :: ·) := by
 match t with
 | [] => simp [unwL, h]
 | [d] => simp [unwL, h]
 | a :: b :: r => simp [unwL, h]
theorem unwL_esc (t : List UInt8) : unwL (37 :: t) = match escD t with | some v => (unwL (t.drop 2)).map (v :: ·) | none => none := by
 match t with
 | [] => simp [unwL, escD, pln_37]
 | [d] => simp [unwL, escD, pln_37]
 | a :: b :: r => simp [unwL, escD, pln_37]
theorem unwL_other {c : UInt8} (h : plnB c.toNat = false) (h2 : c ≠ 37) (t : List UInt8) : unwL (c :: t) = none := by
 match t with
 | [] => simp [unwL, h]
 | [d] => simp [unwL, h]
 | a :: b :: r => simp [unwL, h, h2]
theorem esc_hexF : ∀ c : Fin 256, plnB (c.val : Int) = false → escV (hexU (c.val / 16)) (hexU (c.val % 16)) = some (UInt8.ofNat c.val) := by decide +kernel
theorem esc_hex (c : UInt8) (h : plnB c.toNat = false) : escV (hexU (c.toNat / 16)) (hexU (c.toNat % 16)) = some c := by
 have := esc_hexF ⟨c.toNat, UInt8.toNat_lt _⟩ h
 simpa using this
theorem unwL_encB (c : UInt8) (t : List UInt8) : unwL (encB c ++ t) = (unwL t).map (c :: ·) := by
 cases h : plnB c.toNat
 ·rw [encB_esc h, List.cons_append, unwL_esc]
  simp only [List.cons_append, List.nil_append, escD, esc_hex c h, List.drop_succ_cons, List.drop_zero]
 ·rw [encB_plain h, List.singleton_append, unwL_plain h]
theorem unwL_flat (l : List UInt8) : unwL (l.flatMap encB) = some l := by
 induction l with
 | nil => rfl
 | cons a t ih => rw [List.flatMap_cons, unwL_encB, ih]; rfl
theorem unwL_126 : unwL [126] = none := by decide
theorem unword_wordL (l : List UInt8) : unword (wordL l) = some l := by
 unfold wordL
 by_cases h : l = []
 ·subst h; rfl
 ·rw [if_neg h]
  unfold unword
  have hf := unwL_flat l
  by_cases h1 : l.flatMap encB = []
  ·rw [h1] at hf; exact absurd (Option.some.inj hf).symm h
  ·rw [if_neg h1]
   by_cases h2 : l.flatMap encB = [126]
   ·rw [h2, unwL_126] at hf; cases hf
   ·rw [if_neg h2, hf]
theorem hexU_range (n : Nat) (h : n < 16) : 33 ≤ (hexU n).toNat ∧ (hexU n).toNat ≤ 126 := by
 rcases (by omega : n = 0 ∨ n = 1 ∨ n = 2 ∨ n = 3 ∨ n = 4 ∨ n = 5 ∨ n = 6 ∨ n = 7 ∨ n = 8 ∨ n = 9 ∨ n = 10 ∨ n = 11 ∨ n = 12 ∨ n = 13 ∨ n = 14 ∨ n = 15) with rfl | rfl | rfl | rfl | rfl | rfl | rfl | rfl | rfl | rfl | rfl | rfl | rfl | rfl | rfl | rfl <;> decide
theorem pln_range {c : UInt8} (h : plnB c.toNat = true) : 33 ≤ c.toNat ∧ c.toNat ≤ 125 := by
 unfold plnB at h
 simp only [Bool.and_eq_true, decide_eq_true_eq] at h
 omega
theorem encB_range (c : UInt8) : ∀ x ∈ encB c, 33 ≤ x.toNat ∧ x.toNat ≤ 126 := by
 intro x hx
 have hc : c.toNat < 256 := UInt8.toNat_lt _
 cases h : plnB c.toNat
 ·rw [encB_esc h] at hx
  rcases List.mem_cons.1 hx with rfl | hx
  ·decide
  ·rcases List.mem_cons.1 hx with rfl | hx
   ·exact hexU_range _ (by omega)
   ·obtain rfl := List.mem_singleton.1 hx
    exact hexU_range _ (by omega)
 ·rw [encB_plain h] at hx
  obtain rfl := List.mem_singleton.1 hx
  have := pln_range h; omega
theorem wordL_range (l : List UInt8) : ∀ x ∈ wordL l, 33 ≤ x.toNat ∧ x.toNat ≤ 126 := by
 intro x hx
 unfold wordL at hx
 split at hx
 ·obtain rfl := List.mem_singleton.1 hx; decide
 ·obtain ⟨c, _, hc⟩ := List.mem_flatMap.1 hx
  exact encB_range c x hc
theorem hexD_data : (⟨#[48, 49, 50, 51, 52, 53, 54, 55, 56, 57, 65, 66, 67, 68, 69, 70]⟩ : ByteArray).data.toList = hexD := rfl
theorem byteOf2 (c : UInt8) : ((c.toNat : Int)).toNat.toUInt8 = c := by simp
theorem escD_two {s : ByteArray} (h : 2 ≤ s.size) : escD s.data.toList = escV s[0] s[1] := by
 obtain ⟨⟨l⟩⟩ := s
 match l, h with
 | a :: b :: t, _ => rfl
theorem escD_short {s : ByteArray} (h : s.size < 2) : escD s.data.toList = none := by
 obtain ⟨⟨l⟩⟩ := s
 match l, h with
 | [], _ => rfl
 | [a], _ => rfl
def EscRes (r : Option UInt8) (w : World) (e : Ending) (w' : World) : Prop :=
 (match r with | some v => e = .returned (.tuple #[.int .u8 (v.toNat : Int), .bool true]) | none => e = .returned (.tuple #[.int .u8 0, .bool false])) ∧ w = w'
theorem or_hexF : ∀ a b : Fin 16, (bits .or .i64 ((a.val : Int) * 16) (b.val : Int)) = ((16 * a.val + b.val : Nat) : Int) := by decide +kernel
theorem or_hex (a b : Nat) (ha : a < 16) (hb : b < 16) : bits .or .i64 ((a : Int) * 16) (b : Int) = ((16 * a + b : Nat) : Int) := or_hexF ⟨a, ha⟩ ⟨b, hb⟩
theorem hexIdx_none {c : UInt8} (h : hexV c = 16) (w : World) :
 Calls Tryz.prog 106 #[.string ⟨#[48, 49, 50, 51, 52, 53, 54, 55, 56, 57, 65, 66, 67, 68, 69, 70]⟩, .int .u8 (c.toNat : Int)] w fun e w' => e = .returned (.int .i64 (-1)) ∧ w = w' :=
 (indexByte_any _ _ w).mono fun e w' ⟨he, hw⟩ => ⟨by rw [he, byteOf2, hexD_data, index_hex, if_pos h], hw⟩
theorem hexIdx_some {c : UInt8} {x : Nat} (h : hexV c = x) (hx : x ≠ 16) (w : World) :
 Calls Tryz.prog 106 #[.string ⟨#[48, 49, 50, 51, 52, 53, 54, 55, 56, 57, 65, 66, 67, 68, 69, 70]⟩, .int .u8 (c.toNat : Int)] w fun e w' => e = .returned (.int .i64 (x : Int)) ∧ w = w' :=
 (indexByte_any _ _ w).mono fun e w' ⟨he, hw⟩ => ⟨by rw [he, byteOf2, hexD_data, index_hex, if_neg (by rw [h]; exact hx), h], hw⟩
theorem escaped_any (s : ByteArray) (w : World) (hs : s.size ≤ 1099511627776) :
 Calls Tryz.prog 138 #[.string s] w (EscRes (escD s.data.toList) w) := by
 by_cases h2 : s.size < 2
 ·have HR := zh (escD_short h2)
  generalize escD s.data.toList = r at *
  go_enter Tryz.func138, Tryz.ntmps138
  go_wp2_with fail
  go_ret2
  exact ⟨by rw [HR.out]; rfl, rfl⟩
 ·have HR := zh (escD_two (s := s) (by omega))
  generalize escD s.data.toList = r at *
  have h0 : 0 < s.size := by omega
  have h1 : 1 < s.size := by omega
  have hl0 := hexV_le s[0]
  have hl1 := hexV_le s[1]
  have HV := zh (show escV s[0] s[1] = if hexV s[0] = 16 ∨ hexV s[1] = 16 then none else if plnB ((16 * hexV s[0] + hexV s[1] : Nat) : Int) then none else some (UInt8.ofNat (16 * hexV s[0] + hexV s[1])) from rfl)
  obtain ⟨x, hx⟩ : ∃ x, hexV s[0] = x := ⟨_, rfl⟩
  obtain ⟨y, hy⟩ : ∃ y, hexV s[1] = y := ⟨_, rfl⟩
  rw [hx, hy] at HV
  rw [hx] at hl0; rw [hy] at hl1
  have HX := zh hx; have HY := zh hy; clear hx hy
  by_cases hx : x = 16
  ·have HC1 := fun w => zh (hexIdx_none (HX.out.trans hx) w)
   have HRN : Hid (r = none) := by show _ = _; rw [HR.out, HV.out, if_pos (.inl hx)]
   clear HR HV
   by_cases hy : y = 16
   ·have HC2 := fun w => zh (hexIdx_none (HY.out.trans hy) w)
    clear hx hy
    go_enter Tryz.func138, Tryz.ntmps138
    go_wp2_with fail
    refine (HC1 _).out.mono ?_; rintro e w' ⟨rfl, rfl⟩
    go_wp2_with fail
    refine (HC2 _).out.mono ?_; rintro e w' ⟨rfl, rfl⟩
    go_wp2_with fail
    go_ret2
    exact ⟨by rw [HRN.out]; rfl, rfl⟩
   ·have HC2 := fun w => zh (hexIdx_some HY.out hy w)
    clear hx hy
    go_enter Tryz.func138, Tryz.ntmps138
    go_wp2_with fail
    refine (HC1 _).out.mono ?_; rintro e w' ⟨rfl, rfl⟩
    go_wp2_with fail
    refine (HC2 _).out.mono ?_; rintro e w' ⟨rfl, rfl⟩
    go_wp2_with fail
    go_ret2
    exact ⟨by rw [HRN.out]; rfl, rfl⟩
  ·have HC1 := fun w => zh (hexIdx_some HX.out hx w)
   by_cases hy : y = 16
   ·have HC2 := fun w => zh (hexIdx_none (HY.out.trans hy) w)
    have HRN : Hid (r = none) := by show _ = _; rw [HR.out, HV.out, if_pos (.inr hy)]
    clear HR HV hx hy
    go_enter Tryz.func138, Tryz.ntmps138
    go_wp2_with fail
    refine (HC1 _).out.mono ?_; rintro e w' ⟨rfl, rfl⟩
    go_wp2_with fail
    refine (HC2 _).out.mono ?_; rintro e w' ⟨rfl, rfl⟩
    go_wp2_with fail
    go_ret2
    exact ⟨by rw [HRN.out]; rfl, rfl⟩
   ·have HC2 := fun w => zh (hexIdx_some HY.out hy w)
    have ho := or_hex x y (by omega) (by omega)
    have hlt : 16 * x + y < 256 := by omega
    have HV2 : Hid (r = if plnB ((16 * x + y : Nat) : Int) then none else some (UInt8.ofNat (16 * x + y))) := by
     show _ = _; rw [HR.out, HV.out, if_neg (fun h => h.elim hx hy)]
    clear HR HV hx hy
    have HO := zh ho; clear ho
    go_enter Tryz.func138, Tryz.ntmps138
    go_wp2_with fail
    refine (HC1 _).out.mono ?_; rintro e w' ⟨rfl, rfl⟩
    go_wp2_with fail
    refine (HC2 _).out.mono ?_; rintro e w' ⟨rfl, rfl⟩
    have ho := HO.out
    go_wp2_with fail
    have hcast : ((16 * x + y : Nat) : Int) = 16 * (x : Int) + (y : Int) := by omega
    rw [hcast] at HV2
    clear hcast ho HO
    cases hp : plnB (16 * (x : Int) + (y : Int))
    ·have HP := zh hp; clear hp
     refine (plain_any _ _).mono ?_; rintro e w' ⟨rfl, rfl⟩
     rw [HP.out]
     go_wp2_with fail
     go_ret2
     have hv : ((UInt8.ofNat (16 * x + y)).toNat : Int) = 16 * (x : Int) + (y : Int) := by
      rw [UInt8.toNat_ofNat_of_lt' (by exact hlt)]; omega
     exact ⟨by rw [HV2.out, HP.out]; show _ = Ending.returned (.tuple #[.int .u8 ((UInt8.ofNat (16 * x + y)).toNat : Int), .bool true]); rw [hv]; rfl, rfl⟩
    ·have HP := zh hp; clear hp
     refine (plain_any _ _).mono ?_; rintro e w' ⟨rfl, rfl⟩
     rw [HP.out]
     go_wp2_with fail
     go_ret2
     exact ⟨by rw [HV2.out, HP.out]; rfl, rfl⟩
def UnwRes (r : Option (List UInt8)) (w : World) (e : Ending) (w' : World) : Prop :=
 (match r with | some l => e = .returned (.tuple #[.string ⟨l.toArray⟩, .bool true]) | none => e = .returned (.tuple #[.string ⟨#[]⟩, .bool false])) ∧ Below w.heap.size w w'
theorem drop_cons_data (s : ByteArray) (k : Nat) (h : k < s.size) : s.data.toList.drop k = s[k] :: s.data.toList.drop (k + 1) := by
 rw [List.drop_eq_getElem_cons (by simpa using h)]; rfl
theorem unw_step_plain {s : ByteArray} {k : Nat} {acc : List UInt8} {r : Option (List UInt8)} (hk : k < s.size) (h : r = (unwL (s.data.toList.drop k)).map (acc ++ ·)) (hp : plnB (s[k].toNat) = true) :
 r = (unwL (s.data.toList.drop (k + 1))).map ((acc ++ [s[k]]) ++ ·) := by
 rw [h, drop_cons_data s k hk, unwL_plain hp]
 cases unwL (s.data.toList.drop (k + 1)) <;> simp
theorem unw_step_other {s : ByteArray} {k : Nat} {acc : List UInt8} {r : Option (List UInt8)} (hk : k < s.size) (h : r = (unwL (s.data.toList.drop k)).map (acc ++ ·)) (hp : plnB (s[k].toNat) = false) (h37 : s[k] ≠ 37) : r = none := by
 rw [h, drop_cons_data s k hk, unwL_other hp h37]; rfl
theorem unw_step_bad {s : ByteArray} {k : Nat} {acc : List UInt8} {r : Option (List UInt8)} (hk : k < s.size) (h : r = (unwL (s.data.toList.drop k)).map (acc ++ ·)) (h37 : s[k] = 37) (he : escD (s.data.toList.drop (k + 1)) = none) : r = none := by
 rw [h, drop_cons_data s k hk, h37, unwL_esc, he]; rfl
theorem unw_step_esc {s : ByteArray} {k : Nat} {acc : List UInt8} {r : Option (List UInt8)} {v : UInt8} (hk : k < s.size) (h : r = (unwL (s.data.toList.drop k)).map (acc ++ ·)) (h37 : s[k] = 37) (he : escD (s.data.toList.drop (k + 1)) = some v) :
 k + 3 ≤ s.size ∧ r = (unwL (s.data.toList.drop (k + 3))).map ((acc ++ [v]) ++ ·) := by
 constructor
 ·have hl : 2 ≤ (s.data.toList.drop (k + 1)).length := by
   match s.data.toList.drop (k + 1), he with
   | [], he => cases he
   | [_], he => cases he
   | _ :: _ :: _, _ => simp
  rw [List.length_drop, ← Lib.size_eq] at hl
  omega
 ·rw [h, drop_cons_data s k hk, h37, unwL_esc, he]
  simp only [List.drop_drop]
  cases unwL (s.data.toList.drop (k + 3)) <;> simp
theorem unw_end {s : ByteArray} {acc : List UInt8} {r : Option (List UInt8)} (h : r = (unwL (s.data.toList.drop s.size)).map (acc ++ ·)) : r = some acc := by
 rw [h, List.drop_of_length_le (by rw [← Lib.size_eq]; exact Nat.le_refl _)]; simp [unwL]
theorem drop_data (s : ByteArray) (a : Nat) : (s.extract a s.size).data.toList = s.data.toList.drop a := by
 rw [Lib.extract_data, List.take_of_length_le (by rw [List.length_drop, ← Lib.size_eq]; exact Nat.le_refl _)]
theorem escaped_none {s : ByteArray} {a : Nat} (h : escD (s.data.toList.drop a) = none) (hs : s.size ≤ 1099511627776) (w : World) :
 Calls Tryz.prog 138 #[.string (s.extract a s.size)] w fun e w' => e = .returned (.tuple #[.int .u8 0, .bool false]) ∧ w = w' :=
 (escaped_any (s.extract a s.size) w (by rw [ByteArray.size_extract]; omega)).mono fun e w' hr => by
  unfold EscRes at hr
  rw [drop_data, h] at hr
  exact hr
theorem escaped_some {s : ByteArray} {a : Nat} {v : UInt8} (h : escD (s.data.toList.drop a) = some v) (hs : s.size ≤ 1099511627776) (w : World) :
 Calls Tryz.prog 138 #[.string (s.extract a s.size)] w fun e w' => e = .returned (.tuple #[.int .u8 (v.toNat : Int), .bool true]) ∧ w = w' :=
 (escaped_any (s.extract a s.size) w (by rw [ByteArray.size_extract]; omega)).mono fun e w' hr => by
  unfold EscRes at hr
  rw [drop_data, h] at hr
  exact hr
theorem data_nil_of {s : ByteArray} (h : s.size = 0) : s.data.toList = [] := List.eq_nil_of_length_eq_zero (by rw [← Lib.size_eq]; exact h)
theorem data_ne_of {s : ByteArray} (h : s.size ≠ 0) : s.data.toList ≠ [] := fun e => h (by rw [Lib.size_eq, e]; rfl)
theorem Unword_any (s : ByteArray) (w : World) (hs : s.size ≤ 1099511627776) :
 Calls Tryz.prog 122 #[.string s] w (UnwRes (unword s.data.toList) w) := by
 by_cases h0 : s.size = 0
 ·have HR := zh (show unword s.data.toList = none by rw [data_nil_of h0]; rfl)
  have e0 : s.toList = [] := by rw [Lib.toList_data]; exact data_nil_of h0
  generalize unword s.data.toList = r at *
  clear h0
  go_enter Tryz.func122, Tryz.ntmps122
  go_wp2_with fail
  go_ret2
  exact ⟨by rw [HR.out]; rfl, Below.refl _ _⟩
 ·have hne := data_ne_of h0
  have e0 : s.toList.isEmpty = false := by
   rw [Lib.toList_data, List.isEmpty_eq_false_iff]; exact hne
  by_cases ht : s.data.toList = [126]
  ·have HR := zh (show unword s.data.toList = some [] by rw [ht]; rfl)
   have e1 : (s.toList == [126]) = true := by rw [Lib.toList_data, ht]; rfl
   generalize unword s.data.toList = r at *
   clear h0 hne ht
   go_enter Tryz.func122, Tryz.ntmps122
   go_wp2_with fail
   go_ret2
   exact ⟨by rw [HR.out]; rfl, Below.refl _ _⟩
  ·have HR := zh (show unword s.data.toList = (unwL (s.data.toList.drop 0)).map ([] ++ ·) by
    unfold unword; rw [if_neg hne, if_neg ht, List.drop_zero]; simp)
   have e1 : (s.toList == [126]) = false := by rw [Lib.toList_data, beq_eq_false_iff_ne]; exact ht
   generalize unword s.data.toList = r at *
   obtain ⟨i0, hi0, hz0, hz1, hz2⟩ := info_parts Tryz.info5
   have HI0 := zh hi0; have HZ0 := zh hz0; have HZ1 := zh hz1; have HZ2 := zh hz2
   clear hi0 hz0 hz1 hz2 h0 hne ht
   go_enter Tryz.func122, Tryz.ntmps122
   go_wp2_with (at_make; refine wpList_make_own _ rfl _ _ 22 rfl w.heap.size 5 i0 (.int .u8 0) 1 Tryz.underlying22 HI0.out HZ0.out HZ1.out _ _ _ s.size rfl rfl (by omega) (by rw [HZ2.out]; omega) (by unfold maxLen; omega) (Nat.le_refl _) ?_; intro w0 hown0 hg0; have HO0 := zh hown0; clear hown0)
   have hb0 : Below w.heap.size w w0 := (Below.refl _ _).grown hg0 (Nat.le_refl _) (by intro k hk; cases hk)
   clear hg0
   go_loopw [4, 5] (fun v i wr => ∃ (k : Nat) (acc : List UInt8), k ≤ s.size ∧ i = .int .i64 k ∧ acc.length ≤ k ∧ Hid (r = (unwL (s.data.toList.drop k)).map (acc ++ ·)) ∧ Hid (wr.ownsRow w.heap.size 5 1 v acc.length (Lib.byteCells acc)) ∧ Below w.heap.size w wr) (fun _ i _ => s.size - (intOf i).toNat)
   case atStart => exact ⟨0, [], by omega, rfl, by simp, HR.out, HO0.out, hb0⟩
   case round =>
    clear HR HO0 hb0
    obtain ⟨k, acc, hk, rfl, hal, HA, hown, hbe⟩ := hrel
    have hbs := hbe.size
    by_cases hlt : k < s.size
    ·by_cases h37 : s[k] = 37
     ·have b37 : ((s[k].toNat : Int) == 37) = true := by rw [h37]; rfl
      cases he : escD (s.data.toList.drop (k + 1))
      ·have HE := fun w => zh (escaped_none he hs w)
       have HN := zh (unw_step_bad hlt HA.out h37 he)
       clear he h37 HA
       go_wp2_with (go_at_call 138; refine (HE _).out.mono ?_; rintro e w' ⟨rfl, rfl⟩)
       go_ret2
       exact ⟨by rw [HN.out]; rfl, hbe⟩
      ·rename_i c
       have HE := fun w => zh (escaped_some he hs w)
       obtain ⟨h3, hn⟩ := unw_step_esc hlt HA.out h37 he
       have HN := zh hn
       clear he h37 HA hn
       go_wp2_with (first
        | (go_at_call 138; refine (HE _).out.mono ?_; rintro e w' ⟨rfl, rfl⟩)
        | (at_builtin; refine wpList_append_own _ rfl (.tmp 42) (.tmp 44) 22 rfl w.heap.size 5 i0 (.int .u8 0) 1 1 Tryz.underlying22 HI0.out HZ0.out HZ1.out HZ2.out rfl (by decide) _ _ _ rfl (hown.out.alloc _) ⟨wr.heap.size, 0, none⟩ 1 1 [.int .u8 (c.toNat : Int)] rfl rfl (cell_one_new _ _ _) (by intro u hu; simp at hu; subst hu; rfl) (by unfold maxLen; omega) (by omega) (by simp; omega) ?_; intro v' w1 hown1 hg1 _; have HO1 := zh hown1; clear hown1))
       go_roundw
       case rel =>
        refine ⟨k + 3, acc ++ [c], by omega, by go_num, by simp; omega, HN.out, ?_, (hbe.alloc hbs _).grown hg1 (by simp; omega) (own_base hown.out)⟩
        have := HO1.out
        show World.ownsRow _ _ _ _ _ _ _
        simpa [Lib.byteCells_append, Lib.byteCells, Nat.add_assoc] using this
       case measure => simp [intOf]; omega
     ·have b37 : ((s[k].toNat : Int) == 37) = false := by
       rw [beq_eq_false_iff_ne]; intro h; exact h37 (UInt8.toNat_inj.1 (by show s[k].toNat = 37; omega))
      cases hp : plnB (s[k].toNat)
      ·have HN := zh (unw_step_other hlt HA.out hp h37)
       have HP := zh hp; clear hp h37 HA
       go_wp2_with (go_at_call 114; refine (plain_any _ _).mono ?_; rintro e w' ⟨rfl, rfl⟩; rw [HP.out])
       go_ret2
       exact ⟨by rw [HN.out]; rfl, hbe⟩
      ·have HN := zh (unw_step_plain hlt HA.out hp)
       have HP := zh hp; clear hp h37 HA
       go_wp2_with (first
        | (go_at_call 114; refine (plain_any _ _).mono ?_; rintro e w' ⟨rfl, rfl⟩; rw [HP.out])
        | (at_builtin; refine wpList_append_own _ rfl (.tmp 42) (.tmp 44) 22 rfl w.heap.size 5 i0 (.int .u8 0) 1 1 Tryz.underlying22 HI0.out HZ0.out HZ1.out HZ2.out rfl (by decide) _ _ _ rfl (hown.out.alloc _) ⟨wr.heap.size, 0, none⟩ 1 1 [.int .u8 (s[k].toNat : Int)] rfl rfl (cell_one_new _ _ _) (by intro u hu; simp at hu; subst hu; rfl) (by unfold maxLen; omega) (by omega) (by simp; omega) ?_; intro v' w1 hown1 hg1 _; have HO1 := zh hown1; clear hown1))
       go_roundw
       case rel =>
        refine ⟨k + 1, acc ++ [s[k]], by omega, by go_num, by simp; omega, HN.out, ?_, (hbe.alloc hbs _).grown hg1 (by simp; omega) (own_base hown.out)⟩
        have := HO1.out
        show World.ownsRow _ _ _ _ _ _ _
        simpa [Lib.byteCells_append, Lib.byteCells, Nat.add_assoc] using this
       case measure => simp [intOf]; omega
    ·obtain rfl : k = s.size := by omega
     have HN := zh (unw_end HA.out)
     have hcv := run_string_own hown.out
     clear HA
     go_wp2_with fail
     go_ret2
     exact ⟨by rw [HN.out]; rfl, hbe⟩
def pcs (c : UInt8) (s : ByteArray) : List ByteArray := Lib.splitB (oneB c) 0 (Lib.countB s (oneB c)) s
theorem pcs_len (c : UInt8) (s : ByteArray) : (pcs c s).length = Lib.countB s (oneB c) + 1 := Lib.splitB_all (oneB c) (Nat.le_refl _) 0 _ s rfl
theorem own_shapeD {w : World} {base e size : Nat} {v : Value} {n : Nat} {xs : List Value} (h : w.ownsRow base e size v n xs) : ∃ sp cap, v = .slice sp n cap := by
 obtain ⟨_, ⟨rfl, rfl⟩ | ⟨g, cap, cur, rfl, _⟩⟩ := h
 ·exact ⟨none, 0, rfl⟩
 ·exact ⟨_, cap, rfl⟩
theorem own_baseD {w : World} {base e size : Nat} {v : Value} {n : Nat} {xs : List Value} (h : w.ownsRow base e size v n xs) : ∀ k, v.ownBlock = some k → base ≤ k := fun k hk => (h.lt k hk).1
theorem own_belowD {w w' : World} {B e size n : Nat} {v : Value} {xs : List Value} (h : w.ownsRow B e size v n xs) (hb : Below w.heap.size w w') : w'.ownsRow B e size v n xs := by
 obtain ⟨h0, h1 | ⟨g, cap, cur, h1, h2, h3, h4⟩⟩ := h
 ·exact ⟨h0, .inl h1⟩
 ·exact ⟨h0, .inr ⟨g, cap, cur, h1, h2, (hb.block g (Array.getElem?_eq_some_iff.1 h3).1).trans h3, h4⟩⟩
theorem wpList_append_str {P : Program} {w : World} {ops : Array Oper} {rest : List Oper} {o : Oper} {a : Act} {Q : Exit → Act → World → Prop} (hgd : o.guard = none) (s x : Operand) (t e : TypeId)
 (ho : o.op = .call { callee := .builtin .append, args := #[s, x], argTypes := #[t, t] }) (ht : P.underlying t = some (.slice e)) (hi : (P.info? e).map (fun i => (i.zero, i.size, i.bytes)) = some (some (.string ByteArray.empty), 1, 16))
 (base : Nat) (v : Value) (xs : List ByteArray) (n : Nat) (hs : a.eval s = v) (hn : n = xs.length) (hown : w.ownsRow base e 1 v n (xs.map Value.string))
 (g : Nat) (y : ByteArray) (hx : a.eval x = .slice (some ⟨g, 0, none⟩) 1 1) (hc : w.cell? ⟨g, 0, none⟩ = some (.string y))
 (hlen : n ≤ 100000000) (hbase : base ≤ w.heap.size)
 (h : ∀ sp cap w', Hid (w'.ownsRow base e 1 (.slice sp (n + 1) cap) (n + 1) ((xs ++ [y]).map Value.string)) → w.grownBy w' v.ownBlock → wpList P ops Q rest (a.put o.dst (.slice sp (n + 1) cap)) w') : wpList P ops Q (o :: rest) a w := by
 obtain ⟨i0, hi0, hz0, hz1, hz2⟩ := info_parts hi
 refine wpList_append_own w hgd s x t ho base e i0 _ 1 16 ht hi0 hz0 hz1 hz2 rfl (by decide) v n _ hs hown ⟨g, 0, none⟩ 1 1 [.string y] hx rfl ?_ (by intro u hu; simp at hu; subst hu; rfl) (by unfold maxLen; omega) (by omega) hbase ?_
 ·intro j u hj
  have hj0 : j = 0 := by have := (List.getElem?_eq_some_iff.1 hj).1; simp at this; omega
  subst hj0
  simp at hj; subst hj; rw [Addr.add_mid]; exact hc
 ·intro v' w' h1 h2 _
  obtain ⟨sp, cap, rfl⟩ := own_shapeD h1
  exact h sp cap w' (by show World.ownsRow _ _ _ _ _ _ _; rw [List.map_append]; exact h1) h2
def unwS (s : ByteArray) : Option ByteArray := (unword s.data.toList).map fun m => ⟨m.toArray⟩
def unwsL : List ByteArray → Option (List ByteArray)
 | [] => some []
 | s :: r => match unwS s with
   | none => none
   | some x => (unwsL r).map (x :: ·)
theorem unwsL_none {s : ByteArray} {r : List ByteArray} (h : unwS s = none) : unwsL (s :: r) = none := by rw [unwsL, h]
theorem unwsL_some {s x : ByteArray} {r : List ByteArray} (h : unwS s = some x) : unwsL (s :: r) = (unwsL r).map (x :: ·) := by rw [unwsL, h]
theorem UnwS_any (s : ByteArray) (w : World) (hs : s.size ≤ 1099511627776) :
 Calls Tryz.prog 122 #[.string s] w fun e w' => (match unwS s with | some x => e = .returned (.tuple #[.string x, .bool true]) | none => e = .returned (.tuple #[.string ⟨#[]⟩, .bool false])) ∧ Below w.heap.size w w' :=
 (Unword_any s w hs).mono fun e w' h => by
  unfold UnwRes at h
  unfold unwS
  cases hu : unword s.data.toList with
  | none => rw [hu] at h; exact h
  | some l => rw [hu] at h; exact h
def ConvRes (w : World) (r : Option (List ByteArray)) (e : Ending) (w' : World) : Prop := match r with
 | none => e = .returned (.tuple #[.slice none 0 0, .bool false]) ∧ Below w.heap.size w w'
 | some xs => ∃ sp cap, e = .returned (.tuple #[.slice sp xs.length cap, .bool true]) ∧ w'.ownsRow w.heap.size 9 1 (.slice sp xs.length cap) xs.length (xs.map Value.string) ∧ Below w.heap.size w w'
theorem convRes_none {w : World} {r : Option (List ByteArray)} {e : Ending} {w' : World} (h : r = none) (he : e = .returned (.tuple #[.slice none 0 0, .bool false])) (hb : Below w.heap.size w w') : ConvRes w r e w' := by unfold ConvRes; rw [h]; exact ⟨he, hb⟩
theorem convW_any (g n : Nat) (ws : List ByteArray) (w : World) (hn : ws.length = n) (hn2 : n ≤ 10000001) (hg : g < w.heap.size) (hrow : ∀ j, j < n → w.cell? ⟨g, j, none⟩ = some (.string (ws.getD j ByteArray.empty))) (hsz : ∀ x ∈ ws, x.size ≤ 1099511627776) :
 Calls Tryz.prog 121 #[.slice (some ⟨g, 0, none⟩) n n, .func (.func 122) #[] #[]] w (ConvRes w (unwsL ws)) := by
 have HN := zh hn; have HROW := zh hrow; have HSZ := zh hsz
 obtain ⟨i0, hi0, hz0, hz1, hz2⟩ := info_parts infoStrS
 clear hn hrow hsz
 go_enter Tryz.func121, Tryz.ntmps121
 go_wp2_with (refine wpList_make_own w rfl _ _ 27 rfl w.heap.size 9 i0 _ 1 Tryz.underlying27 hi0 hz0 hz1 .i64 .i64 (n : Int) n rfl rfl rfl (by rw [hz2]; omega) (by unfold maxLen; omega) (Nat.le_refl _) ?_; intro w1 hown1 hg1)
 have HB1 := zh ((Below.refl w.heap.size w).grown hg1 (Nat.le_refl _) (fun k e => by cases e))
 have HO1 := zh hown1
 clear hg1 hown1 hi0 hz0 hz1 hz2
 go_loopw [6, 16] (fun v i wr => ∃ (k : Nat) (done : List ByteArray) (sp : Option Addr) (cap : Nat), k ≤ n ∧ i = .int .i64 k ∧ Hid (k = done.length) ∧ v = .slice sp k cap ∧ Hid (unwsL ws = (unwsL (ws.drop k)).map (done ++ ·)) ∧ Hid (wr.ownsRow w.heap.size 9 1 (.slice sp k cap) k (done.map Value.string)) ∧ Hid (Below w.heap.size w wr)) (fun _ i _ => n - (intOf i).toNat)
 case atStart => exact ⟨0, [], _, _, Nat.zero_le _, rfl, rfl, rfl, by show _ = _; simp, HO1.out, HB1.out⟩
 case round =>
  clear HO1 HB1
  obtain ⟨k, done, sp, cap, hk, rfl, HK, rfl, HR, hown, hbe⟩ := hrel
  have hbs := hbe.out.size
  by_cases hlt : k < n
  ·have hd : decide ((k : Int) < (n : Int)) = true := by simp; omega
   have p1 : (0 : Int) ≤ (k : Int) := by omega
   have p2 : (k : Int) < (n : Int) := by omega
   have hlw : k < ws.length := by rw [HN.out]; exact hlt
   have c1 := (hbe.out.cell (p := ⟨g, k, none⟩) hg).trans (HROW.out k hlt)
   have hge : ws.getD k ByteArray.empty = ws[k] := by rw [List.getD_eq_getElem?_getD, List.getElem?_eq_getElem hlw]; rfl
   rw [hge] at c1
   have hdr : ws.drop k = ws[k] :: ws.drop (k + 1) := List.drop_eq_getElem_cons hlw
   have hc := fun w => UnwS_any ws[k] w (HSZ.out _ (List.getElem_mem hlw))
   obtain ⟨x, hx⟩ : ∃ x, ws[k] = x := ⟨_, rfl⟩
   rw [hx] at c1 hdr hc
   clear hge hx
   cases hu : unwS x with
   | none =>
     have HX : Hid (unwsL ws = none) := by show _ = _; rw [HR.out, hdr, unwsL_none hu]; rfl
     rw [hu] at hc
     have HC := zh hc
     clear hc hu hdr
     go_wp2_with fail
     refine (HC.out _).mono ?_
     rintro e w6 ⟨rfl, b6⟩
     have B6 := zh (hbe.out.trans (b6.mono hbs))
     clear b6
     go_wp2_with fail
     go_ret2
     exact convRes_none HX.out rfl B6.out
   | some y =>
     have HX : Hid (unwsL ws = (unwsL (ws.drop (k + 1))).map ((done ++ [y]) ++ ·)) := by
      show _ = _
      rw [HR.out, hdr, unwsL_some hu, Option.map_map]
      congr 1
      funext z
      simp
     rw [hu] at hc
     have HC := zh hc
     clear hc hu hdr
     go_wp2_with fail
     refine (HC.out _).mono ?_
     rintro e w6 ⟨rfl, b6⟩
     have B6 := zh (hbe.out.trans (b6.mono hbs))
     have hz6 := B6.out.size
     have hown6 := zh (own_belowD hown.out b6)
     clear b6 c1
     go_wp2_with (first
      | (at_builtin; refine wpList_append_str rfl (.tmp 28) (.tmp 30) 27 9 rfl Tryz.underlying27 infoStrS w.heap.size _ done k rfl HK.out (hown6.out.alloc _) w6.heap.size y rfl (by simp) (by omega) (by simp; omega) ?_; intro sp5 cap5 w5 hown5 hg5))
     have hbe5 := (B6.out.alloc hz6 (.cells #[.string y] 9)).grown hg5 (by simp; omega) (own_baseD hown6.out)
     go_roundw
     case rel => exact ⟨k + 1, done ++ [y], sp5, cap5, by omega, by go_num, by show _ = _; rw [List.length_append, ← HK.out]; rfl, rfl, HX, hown5, hbe5⟩
     case measure => simp [intOf]; omega
  ·obtain rfl : n = k := by omega
   have hd : decide ((n : Int) < (n : Int)) = false := by simp
   have HX : Hid (unwsL ws = some done) := by
    show _ = _
    rw [HR.out, List.drop_eq_nil_of_le (by rw [HN.out]; exact Nat.le_refl _)]; simp [unwsL]
   go_wp2_with fail
   go_ret2
   unfold ConvRes
   rw [HX.out]
   have h1 := hown.out
   have h2 := HK.out
   rw [h2] at h1 ⊢
   exact ⟨sp, cap, rfl, h1, hbe.out⟩
theorem below_allocD (w : World) (o : Obj) : Below w.heap.size w (w.alloc o) := (Below.refl _ _).alloc (Nat.le_refl _) _
theorem own_monoD {w : World} {base base' : Nat} {e : TypeId} {size : Nat} {v : Value} {n : Nat} {xs : List Value} (h : w.ownsRow base e size v n xs) (hb : base' ≤ base) : w.ownsRow base' e size v n xs :=
 ⟨h.1, h.2.imp id fun ⟨g, cap, cur, h1, h2, h3⟩ => ⟨g, cap, cur, h1, Nat.le_trans hb h2, h3⟩⟩
theorem splitB_size (sep : ByteArray) : ∀ (k : Nat) (s : ByteArray), ∀ x ∈ Lib.splitB sep 0 k s, x.size ≤ s.size
 | 0, s, x, hx => by rw [Lib.splitB_zero, List.mem_singleton] at hx; subst hx; exact Nat.le_refl _
 | k + 1, s, x, hx => by
   unfold Lib.splitB at hx
   split at hx
   ·rw [List.mem_singleton] at hx; subst hx; exact Nat.le_refl _
   ·rcases List.mem_cons.1 hx with h | h
    ·subst h; rw [ByteArray.size_extract]; omega
    ·have := splitB_size sep k _ x h
     rw [ByteArray.size_extract] at this
     omega
theorem pcs_size (c : UInt8) (s : ByteArray) : ∀ x ∈ pcs c s, x.size ≤ s.size := splitB_size _ _ _
theorem pcs_cnt (c : UInt8) (s : ByteArray) : Lib.countB s (oneB c) ≤ s.size := Lib.countB_le (oneB c) (Nat.le_refl _) s.size s (Nat.le_refl _)
theorem readLine_any (s : ByteArray) (w : World) (hs : s.size ≤ 10000000) :
 Calls Tryz.prog 100 #[.string s] w (ConvRes w (unwsL (pcs 32 s))) := by
 have HC := zh (fun w => split_anyS s 32 w hs)
 have hl := pcs_len 32 s
 have hc := pcs_cnt 32 s
 have hz := pcs_size 32 s
 have HV : Hid (∀ w1, w1 = w.alloc (.cells ((pcs 32 s).map Value.string).toArray 9) → Calls Tryz.prog 121 #[.slice (some ⟨w.heap.size, 0, none⟩) (Lib.countB s (oneB 32) + 1) (Lib.countB s (oneB 32) + 1), .func (.func 122) #[] #[]] w1 fun e w' => ∃ v b, e = .returned (.tuple #[v, .bool b]) ∧ ConvRes w (unwsL (pcs 32 s)) e w') := by
  rintro w1 rfl
  have hb := below_allocD w (.cells ((pcs 32 s).map Value.string).toArray 9)
  have hnew := heap_alloc_new w (.cells ((pcs 32 s).map Value.string).toArray 9)
  refine (convW_any w.heap.size (Lib.countB s (oneB 32) + 1) (pcs 32 s) _ hl (by omega) (by simp) (fun j hj => ?_) (fun x hx => Nat.le_trans (hz x hx) (by omega))).mono fun e w' h => ?_
  ·rw [cell_of_row _ w.heap.size j _ _ (0, 0) hnew]
   have : j < (pcs 32 s).length := by omega
   simp [this]
  ·unfold ConvRes at h ⊢
   cases hu : unwsL (pcs 32 s) with
   | none =>
     rw [hu] at h
     obtain ⟨h1, h2⟩ := h
     exact ⟨_, _, h1, h1, hb.trans (h2.mono hb.size)⟩
   | some xs =>
     rw [hu] at h
     obtain ⟨sp, cap, h1, h2, h3⟩ := h
     exact ⟨_, _, h1, sp, cap, h1, own_monoD h2 hb.size, hb.trans (h3.mono hb.size)⟩
 clear hl hc hz hs
 go_enter Tryz.func100, Tryz.ntmps100
 go_wp2_with fail
 refine (HC.out _).mono ?_
 rintro e w1 ⟨rfl, hw⟩
 have HW := zh hw
 clear hw
 go_wp2_with fail
 refine (HV.out w1 HW.out).mono ?_
 rintro e w2 ⟨v, b, rfl, hr⟩
 have HR := zh hr
 clear hr
 go_wp2_with fail
 go_ret2
 exact HR.out
theorem own_apart {w : World} {b1 b2 e1 e2 s1 s2 : Nat} {v1 v2 : Value} {n1 n2 : Nat} {x1 x2 : List Value} (h1 : w.ownsRow b1 e1 s1 v1 n1 x1) (h2 : w.ownsRow b2 e2 s2 v2 n2 x2) (hne : e1 ≠ e2) : v1.ownBlock = none ∨ v1.ownBlock ≠ v2.ownBlock := by
 obtain ⟨_, ⟨rfl, _⟩ | ⟨g1, c1, u1, rfl, _, g1h, _⟩⟩ := h1
 ·exact .inl rfl
 ·obtain ⟨_, ⟨rfl, _⟩ | ⟨g2, c2, u2, rfl, _, g2h, _⟩⟩ := h2
  ·exact .inr (by simp [Value.ownBlock])
  ·refine .inr (fun e => hne ?_)
   have e' : g1 = g2 := by simpa [Value.ownBlock] using e
   subst e'
   rw [g1h] at g2h
   injection g2h with g2h
   injection g2h
theorem infoLn : (Tryz.prog.info? 27).map (fun i => (i.zero, i.size, i.bytes)) = some (some (.slice none 0 0), 1, 24) := by kernel_rfl
theorem wpList_append_ln {P : Program} {w : World} {ops : Array Oper} {rest : List Oper} {o : Oper} {a : Act} {Q : Exit → Act → World → Prop} (hgd : o.guard = none) (s x : Operand) (t e : TypeId)
 (ho : o.op = .call { callee := .builtin .append, args := #[s, x], argTypes := #[t, t] }) (ht : P.underlying t = some (.slice e)) (hi : (P.info? e).map (fun i => (i.zero, i.size, i.bytes)) = some (some (.slice none 0 0), 1, 24))
 (base : Nat) (v : Value) (xs : List Ln) (n : Nat) (hs : a.eval s = v) (hn : n = xs.length) (hown : w.ownsRow base e 1 v n (xs.map Ln.val))
 (g : Nat) (y : Ln) (hx : a.eval x = .slice (some ⟨g, 0, none⟩) 1 1) (hc : w.cell? ⟨g, 0, none⟩ = some y.val)
 (hlen : n ≤ 100000000) (hbase : base ≤ w.heap.size)
 (h : ∀ sp cap w', Hid (w'.ownsRow base e 1 (.slice sp (n + 1) cap) (n + 1) ((xs ++ [y]).map Ln.val)) → w.grownBy w' v.ownBlock → wpList P ops Q rest (a.put o.dst (.slice sp (n + 1) cap)) w') : wpList P ops Q (o :: rest) a w := by
 obtain ⟨i0, hi0, hz0, hz1, hz2⟩ := info_parts hi
 refine wpList_append_own w hgd s x t ho base e i0 _ 1 24 ht hi0 hz0 hz1 hz2 rfl (by decide) v n _ hs hown ⟨g, 0, none⟩ 1 1 [y.val] hx rfl ?_ (by intro u hu; simp at hu; subst hu; rfl) (by unfold maxLen; omega) (by omega) hbase ?_
 ·intro j u hj
  have hj0 : j = 0 := by have := (List.getElem?_eq_some_iff.1 hj).1; simp at this; omega
  subst hj0
  simp at hj; subst hj; rw [Addr.add_mid]; exact hc
 ·intro v' w' h1 h2 _
  obtain ⟨sp, cap, rfl⟩ := own_shapeD h1
  exact h sp cap w' (by show World.ownsRow _ _ _ _ _ _ _; rw [List.map_append]; exact h1) h2
def LnOwn (w : World) (base : Nat) (q : Ln) : Prop := w.ownsRow base 9 1 (.slice q.sp q.n q.cap) q.n (q.l.map Value.string)
def unlL : List ByteArray → Option (List (List ByteArray))
 | [] => some []
 | s :: r => match unwsL (pcs 32 s) with
   | none => none
   | some x => (unlL r).map (x :: ·)
theorem unlL_none {s : ByteArray} {r : List ByteArray} (h : unwsL (pcs 32 s) = none) : unlL (s :: r) = none := by rw [unlL, h]
theorem unlL_some {s : ByteArray} {x : List ByteArray} {r : List ByteArray} (h : unwsL (pcs 32 s) = some x) : unlL (s :: r) = (unlL r).map (x :: ·) := by rw [unlL, h]
def ConvL (w : World) (r : Option (List (List ByteArray))) (e : Ending) (w' : World) : Prop := match r with
 | none => e = .returned (.tuple #[.slice none 0 0, .bool false]) ∧ Below w.heap.size w w'
 | some L => ∃ (sp : Option Addr) (cap : Nat) (ls : List Ln), wordsOf ls = L ∧ e = .returned (.tuple #[.slice sp ls.length cap, .bool true]) ∧ w'.ownsRow w.heap.size 27 1 (.slice sp ls.length cap) ls.length (ls.map Ln.val) ∧ (∀ q ∈ ls, LnOwn w' w.heap.size q) ∧ Below w.heap.size w w'
theorem convL_none {w : World} {r : Option (List (List ByteArray))} {e : Ending} {w' : World} (h : r = none) (he : e = .returned (.tuple #[.slice none 0 0, .bool false])) (hb : Below w.heap.size w w') : ConvL w r e w' := by unfold ConvL; rw [h]; exact ⟨he, hb⟩
theorem convLs_any (g n : Nat) (ws : List ByteArray) (w : World) (hn : ws.length = n) (hn2 : n ≤ 10000001) (hg : g < w.heap.size) (hrow : ∀ j, j < n → w.cell? ⟨g, j, none⟩ = some (.string (ws.getD j ByteArray.empty))) (hsz : ∀ x ∈ ws, x.size ≤ 10000000) :
 Calls Tryz.prog 99 #[.slice (some ⟨g, 0, none⟩) n n, .func (.func 100) #[] #[]] w (ConvL w (unlL ws)) := by
 have HN := zh hn; have HROW := zh hrow; have HSZ := zh hsz
 obtain ⟨i0, hi0, hz0, hz1, hz2⟩ := info_parts infoLn
 clear hn hrow hsz
 go_enter Tryz.func99, Tryz.ntmps99
 go_wp2_with (refine wpList_make_own w rfl _ _ 59 rfl w.heap.size 27 i0 _ 1 Tryz.underlying59 hi0 hz0 hz1 .i64 .i64 (n : Int) n rfl rfl rfl (by rw [hz2]; omega) (by unfold maxLen; omega) (Nat.le_refl _) ?_; intro w1 hown1 hg1)
 have HB1 := zh ((Below.refl w.heap.size w).grown hg1 (Nat.le_refl _) (fun k e => by cases e))
 have HO1 := zh hown1
 clear hg1 hown1 hi0 hz0 hz1 hz2
 go_loopw [6, 16] (fun v i wr => ∃ (k : Nat) (done : List Ln) (sp : Option Addr) (cap : Nat), k ≤ n ∧ i = .int .i64 k ∧ Hid (k = done.length) ∧ v = .slice sp k cap ∧ Hid (unlL ws = (unlL (ws.drop k)).map (wordsOf done ++ ·)) ∧ Hid (wr.ownsRow w.heap.size 27 1 (.slice sp k cap) k (done.map Ln.val)) ∧ Hid (∀ q ∈ done, LnOwn wr w.heap.size q) ∧ Hid (Below w.heap.size w wr)) (fun _ i _ => n - (intOf i).toNat)
 case atStart => exact ⟨0, [], _, _, Nat.zero_le _, rfl, rfl, rfl, by show _ = _; simp [wordsOf], HO1.out, (fun q hq => by cases hq), HB1.out⟩
 case round =>
  clear HO1 HB1
  obtain ⟨k, done, sp, cap, hk, rfl, HK, rfl, HR, hown, hea, hbe⟩ := hrel
  have hbs := hbe.out.size
  by_cases hlt : k < n
  ·have hd : decide ((k : Int) < (n : Int)) = true := by simp; omega
   have p1 : (0 : Int) ≤ (k : Int) := by omega
   have p2 : (k : Int) < (n : Int) := by omega
   have hlw : k < ws.length := by rw [HN.out]; exact hlt
   have c1 := (hbe.out.cell (p := ⟨g, k, none⟩) hg).trans (HROW.out k hlt)
   have hge : ws.getD k ByteArray.empty = ws[k] := by rw [List.getD_eq_getElem?_getD, List.getElem?_eq_getElem hlw]; rfl
   rw [hge] at c1
   have hdr : ws.drop k = ws[k] :: ws.drop (k + 1) := List.drop_eq_getElem_cons hlw
   have hc := fun w => readLine_any ws[k] w (HSZ.out _ (List.getElem_mem hlw))
   obtain ⟨x, hx⟩ : ∃ x, ws[k] = x := ⟨_, rfl⟩
   rw [hx] at c1 hdr hc
   clear hge hx
   cases hu : unwsL (pcs 32 x) with
   | none =>
     have HX : Hid (unlL ws = none) := by show _ = _; rw [HR.out, hdr, unlL_none hu]; rfl
     rw [hu] at hc
     have HC : Hid (∀ w, Calls Tryz.prog 100 #[.string x] w fun e w' => e = .returned (.tuple #[.slice none 0 0, .bool false]) ∧ Below w.heap.size w w') := hc
     clear hc hu hdr
     go_wp2_with fail
     refine (HC.out _).mono ?_
     rintro e w6 ⟨rfl, b6⟩
     have B6 := zh (hbe.out.trans (b6.mono hbs))
     clear b6
     go_wp2_with fail
     go_ret2
     exact convL_none HX.out rfl B6.out
   | some xs =>
     rw [hu] at hc
     have HC : Hid (∀ w, Calls Tryz.prog 100 #[.string x] w fun e w' => ∃ sp cap, e = .returned (.tuple #[.slice sp xs.length cap, .bool true]) ∧ w'.ownsRow w.heap.size 9 1 (.slice sp xs.length cap) xs.length (xs.map Value.string) ∧ Below w.heap.size w w') := hc
     have HX : Hid (∀ y : Ln, y.l = xs → unlL ws = (unlL (ws.drop (k + 1))).map (wordsOf (done ++ [y]) ++ ·)) := by
      rintro y rfl
      rw [HR.out, hdr, unlL_some hu, Option.map_map]
      congr 1
      funext z
      simp [wordsOf]
     clear hc hu hdr
     go_wp2_with fail
     refine (HC.out _).mono ?_
     rintro e w6 ⟨sp6, cap6, rfl, o6, b6⟩
     have B6 := zh (hbe.out.trans (b6.mono hbs))
     have hz6 := B6.out.size
     have hown6 := zh (own_belowD hown.out b6)
     have HEA6 : Hid (∀ q ∈ done, LnOwn w6 w.heap.size q) := fun q hq => own_belowD (hea.out q hq) b6
     have HO6 : Hid (LnOwn w6 w.heap.size ⟨sp6, xs.length, cap6, xs⟩) := own_monoD o6 hbs
     have HX2 := zh (HX.out ⟨sp6, xs.length, cap6, xs⟩ rfl)
     clear b6 c1 o6 HX hea
     go_wp2_with (first
      | (at_builtin; refine wpList_append_ln rfl (.tmp 28) (.tmp 30) 59 27 rfl Tryz.underlying59 infoLn w.heap.size _ done k rfl HK.out (hown6.out.alloc _) w6.heap.size (⟨sp6, xs.length, cap6, xs⟩ : Ln) rfl (by simp [Ln.val]) (by omega) (by simp; omega) ?_; intro sp5 cap5 w5 hown5 hg5))
     have hbe5 := (B6.out.alloc hz6 (.cells #[.slice sp6 xs.length cap6] 27)).grown hg5 (by simp; omega) (own_baseD hown6.out)
     have HEA5 : Hid (∀ q ∈ done ++ [(⟨sp6, xs.length, cap6, xs⟩ : Ln)], LnOwn w5 w.heap.size q) := by
      intro q hq
      have hq6 : LnOwn w6 w.heap.size q := by
       rcases List.mem_append.1 hq with h | h
       ·exact HEA6.out q h
       ·rw [List.mem_singleton.1 h]; exact HO6.out
      exact World.ownsRow.kept (World.ownsRow.alloc hq6 _) hg5 (own_apart (w := w6) hq6 hown6.out (by decide))
     go_roundw
     case rel => exact ⟨k + 1, done ++ [(⟨sp6, xs.length, cap6, xs⟩ : Ln)], sp5, cap5, by omega, by go_num, by show _ = _; rw [List.length_append, ← HK.out]; rfl, rfl, HX2.out, hown5, HEA5.out, hbe5⟩
     case measure => simp [intOf]; omega
  ·obtain rfl : n = k := by omega
   have hd : decide ((n : Int) < (n : Int)) = false := by simp
   have HX : Hid (unlL ws = some (wordsOf done)) := by
    show _ = _
    rw [HR.out, List.drop_eq_nil_of_le (by rw [HN.out]; exact Nat.le_refl _)]; simp [unlL]
   go_wp2_with fail
   go_ret2
   unfold ConvL
   rw [HX.out]
   have h1 := hown.out
   have h2 := HK.out
   rw [h2] at h1 ⊢
   exact ⟨sp, cap, done, rfl, rfl, h1, hea.out, hbe.out⟩
theorem last_byte (s : ByteArray) (h : 0 < s.size) : (s.extract (s.size - 1) s.size).toList = [s[s.size - 1]] := by
 rw [Lib.toList_data, ByteArray.data_extract, Array.toList_extract, List.extract_eq_take_drop, show s.size - (s.size - 1) = 1 by omega]
 rw [List.drop_eq_getElem_cons (by simpa using (show s.size - 1 < s.size by omega))]
 rfl
def endN (s : ByteArray) : Bool := decide (s.data.toList.getLast? = some 10)
theorem endN_last (s : ByteArray) (h : 0 < s.size) : endN s = decide (s[s.size - 1] = 10) := by
 unfold endN
 rw [decide_eq_decide, List.getLast?_eq_getElem?, ← Lib.size_eq, List.getElem?_eq_getElem (by simpa using (show s.size - 1 < s.size by omega))]
 simp; rfl
theorem hasSuffix_any (s : ByteArray) (w : World) (h : 0 < s.size) (hs : s.size ≤ 10000000) :
 Calls Tryz.prog 137 #[.string s, .string ⟨#[10]⟩] w fun e w' => e = .returned (.bool (endN s)) ∧ w = w' := by
 have hd : decide ((s.size : Int) ≥ 1) = true := by simp; omega
 have q0 : (0 : Int) ≤ (s.size : Int) - 1 := by omega
 have q1 : (s.size : Int) - 1 ≤ (s.size : Int) := by omega
 have q2 : ((s.size : Int) - 1).toNat = s.size - 1 := by omega
 have hl := last_byte s h
 have HE : Hid (endN s = (s[s.size - 1] == 10)) := by
  show _ = _
  rw [endN_last s h, Bool.eq_iff_iff]; simp
 go_enter Tryz.func137, Tryz.ntmps137
 go_wp2_with fail
 go_ret
 exact ⟨by rw [HE.out]; rfl, rfl⟩
theorem cutSufLite_any (s : ByteArray) (w : World) (h : 0 < s.size) (hs : s.size ≤ 10000000) :
 Calls Tryz.prog 120 #[.string s, .string ⟨#[10]⟩] w fun e w' => e = .returned (if endN s = true then .tuple #[.string (s.extract 0 (s.size - 1)), .bool true] else .tuple #[.string s, .bool false]) ∧ w = w' := by
 have q0 : (0 : Int) ≤ (s.size : Int) - 1 := by omega
 have q1 : (s.size : Int) - 1 ≤ (s.size : Int) := by omega
 have q2 : ((s.size : Int) - 1).toNat = s.size - 1 := by omega
 have HP := zh (fun w => hasSuffix_any s w h hs)
 obtain ⟨b, hb⟩ : ∃ b, endN s = b := ⟨_, rfl⟩
 rw [hb] at HP ⊢
 clear hb
 cases b
 ·rw [if_neg (by simp)]
  go_enter Tryz.func120, Tryz.ntmps120
  go_wp2_with fail
  refine (HP.out _).mono ?_
  rintro e w1 ⟨rfl, rfl⟩
  go_wp2_with fail
  go_ret2
  exact ⟨rfl, rfl⟩
 ·rw [if_pos rfl]
  go_enter Tryz.func120, Tryz.ntmps120
  go_wp2_with fail
  refine (HP.out _).mono ?_
  rintro e w1 ⟨rfl, rfl⟩
  go_wp2_with fail
  go_ret2
  exact ⟨rfl, rfl⟩
theorem cutSuf_any (s : ByteArray) (w : World) (h : 0 < s.size) (hs : s.size ≤ 10000000) :
 Calls Tryz.prog 98 #[.string s, .string ⟨#[10]⟩] w fun e w' => e = .returned (if endN s = true then .tuple #[.string (s.extract 0 (s.size - 1)), .bool true] else .tuple #[.string s, .bool false]) ∧ w = w' := by
 have HP := zh (fun w => cutSufLite_any s w h hs)
 clear h hs
 obtain ⟨b, hb⟩ : ∃ b, endN s = b := ⟨_, rfl⟩
 rw [hb] at HP ⊢
 clear hb
 cases b
 ·rw [if_neg (by simp)] at HP ⊢
  go_enter Tryz.func98, Tryz.ntmps98
  go_wp2_with fail
  refine (HP.out _).mono ?_
  rintro e w1 ⟨rfl, rfl⟩
  go_wp2_with fail
  go_ret2
  exact ⟨rfl, rfl⟩
 ·rw [if_pos rfl] at HP ⊢
  go_enter Tryz.func98, Tryz.ntmps98
  go_wp2_with fail
  refine (HP.out _).mono ?_
  rintro e w1 ⟨rfl, rfl⟩
  go_wp2_with fail
  go_ret2
  exact ⟨rfl, rfl⟩
def rdoc (s : ByteArray) : Option (List (List ByteArray)) := if s.data.toList = [] then some [] else if endN s = true then unlL (pcs 10 (s.extract 0 (s.size - 1))) else none
theorem readLines_any (s : ByteArray) (w : World) (hs : s.size ≤ 10000000) :
 Calls Tryz.prog 60 #[.string s] w (ConvL w (rdoc s)) := by
 by_cases he : s.size = 0
 ·have hl : s.data.toList = [] := List.eq_nil_of_length_eq_zero (by rw [← Lib.size_eq]; exact he)
  have hl2 : s.toList = [] := by rw [Lib.toList_data]; exact hl
  have HR : Hid (rdoc s = some []) := by show _ = _; unfold rdoc; rw [if_pos hl]
  clear hl he
  go_enter Tryz.func60, Tryz.ntmps60
  go_wp2_with fail
  go_ret2
  unfold ConvL
  rw [HR.out]
  exact ⟨none, 0, [], rfl, rfl, World.ownsRow_nil _ _ _ _, (fun q hq => by cases hq), Below.refl _ _⟩
 ·have hne : s.data.toList ≠ [] := fun h => he (by rw [Lib.size_eq, h]; rfl)
  have hl : (s.toList == []) = false := by rw [Lib.toList_data, beq_eq_false_iff_ne]; exact hne
  have hl2 : ¬ s.toList = [] := by simpa using hl
  have HC := zh (fun w => cutSuf_any s w (by omega) hs)
  have HR : Hid (rdoc s = if endN s = true then unlL (pcs 10 (s.extract 0 (s.size - 1))) else none) := by show _ = _; unfold rdoc; rw [if_neg hne]
  obtain ⟨b, hb⟩ : ∃ b, endN s = b := ⟨_, rfl⟩
  rw [hb] at HC HR
  clear hb hne
  cases b
  ·rw [if_neg (by simp)] at HC HR
   clear he
   go_enter Tryz.func60, Tryz.ntmps60
   go_wp2_with fail
   refine (HC.out _).mono ?_
   rintro e w1 ⟨rfl, rfl⟩
   go_wp2_with fail
   go_ret2
   exact convL_none HR.out rfl (Below.refl _ _)
  ·rw [if_pos rfl] at HC HR
   have htz : (s.extract 0 (s.size - 1)).size ≤ 10000000 := by rw [ByteArray.size_extract]; omega
   obtain ⟨T, hT⟩ : ∃ T, s.extract 0 (s.size - 1) = T := ⟨_, rfl⟩
   rw [hT] at HC HR htz
   have HS := zh (fun w => split_anyS T 10 w htz)
   have hl3 := pcs_len 10 T
   have hc := pcs_cnt 10 T
   have hz := pcs_size 10 T
   have HV : Hid (∀ w1, w1 = w.alloc (.cells ((pcs 10 T).map Value.string).toArray 9) → Calls Tryz.prog 99 #[.slice (some ⟨w.heap.size, 0, none⟩) (Lib.countB T (oneB 10) + 1) (Lib.countB T (oneB 10) + 1), .func (.func 100) #[] #[]] w1 fun e w' => ∃ v b, e = .returned (.tuple #[v, .bool b]) ∧ ConvL w (unlL (pcs 10 T)) e w') := by
    rintro w1 rfl
    have hb := below_allocD w (.cells ((pcs 10 T).map Value.string).toArray 9)
    have hnew := heap_alloc_new w (.cells ((pcs 10 T).map Value.string).toArray 9)
    refine (convLs_any w.heap.size (Lib.countB T (oneB 10) + 1) (pcs 10 T) _ hl3 (by omega) (by simp) (fun j hj => ?_) (fun x hx => Nat.le_trans (hz x hx) (by omega))).mono fun e w' h => ?_
    ·rw [cell_of_row _ w.heap.size j _ _ (0, 0) hnew]
     have : j < (pcs 10 T).length := by omega
     simp [this]
    ·unfold ConvL at h ⊢
     cases hu : unlL (pcs 10 T) with
     | none =>
       rw [hu] at h
       obtain ⟨h1, h2⟩ := h
       exact ⟨_, _, h1, h1, hb.trans (h2.mono hb.size)⟩
     | some xs =>
       rw [hu] at h
       obtain ⟨sp, cap, ls, h0, h1, h2, h3, h4⟩ := h
       exact ⟨_, _, h1, sp, cap, ls, h0, h1, own_monoD h2 hb.size, (fun q hq => own_monoD (h3 q hq) hb.size), hb.trans (h4.mono hb.size)⟩
   clear hl3 hc hz hs hT htz he
   go_enter Tryz.func60, Tryz.ntmps60
   go_wp2_with fail
   refine (HC.out _).mono ?_
   rintro e w1 ⟨rfl, rfl⟩
   go_wp2_with fail
   refine (HS.out _).mono ?_
   rintro e w1 ⟨rfl, hw⟩
   have HW := zh hw
   clear hw
   go_wp2_with fail
   refine (HV.out w1 HW.out).mono ?_
   rintro e w2 ⟨v, b, rfl, hr⟩
   have HR2 := zh hr
   clear hr
   go_wp2_with fail
   go_ret2
   rw [HR.out]
   exact HR2.out
end Go.Proofs.YtecllfbadciaoaaGreatDoor
