/-
  The walks of the reference's FormatHalf and Format.
-/
import Derived.Test.YtecllfbadciaoaaGreatDoorZip
import Derived.Test.YtecllfbadciaoaaGreatDoorQ10
set_option maxRecDepth 100000
set_option maxHeartbeats 8000000
namespace Go.Proofs.YtecllfbadciaoaaGreatDoor
open Go.RowKit
theorem refFormat_any (a : List Int) (w : World) (ha : a.length = 32) (hA : Byt a) :
 Calls Tryz.prog 56 #[.agg (a.map (Value.int .u8)).toArray] w fun e w' => e = .returned (.string ⟨([115, 104, 97, 50, 53, 54, 58] ++ hexB a).toArray⟩) ∧ Below w.heap.size w w' := by
 have HLA := zh ha; have HA := zh hA; clear ha hA
 have HR := zh (row_new w 80 .u8 a)
 have HB := zh (below_alloc w (.cells (a.map (Value.int .u8)).toArray 80))
 have HSZ := zh (alloc_size w (.cells (a.map (Value.int .u8)).toArray 80))
 go_enter Tryz.func56, Tryz.ntmps56
 go_wp2_with fail
 generalize hw0 : World.alloc w _ = w0
 rw [hw0] at HR HB HSZ
 clear hw0
 have hs0 := HSZ.out
 go_loopg [3, 4] 32 (fun g v i wx => ∃ (j N : Nat) (sp : Option Addr) (cap : Nat), j + g = 32 ∧ Hid (N = j) ∧ i = .int .i64 j ∧ v = .slice sp N cap ∧ Hid (wx.ownsRow w0.heap.size 5 1 (.slice sp N cap) N ((a.take j).map (Value.int .u8))) ∧ Hid (Below w0.heap.size w0 wx))
 case atStart => exact ⟨0, 0, none, 0, rfl, rfl, rfl, rfl, World.ownsRow_nil _ _ _ _, Below.refl _ _⟩
 case round =>
  obtain ⟨j, N, sp4, cap4, hjg, hN, rfl, rfl, hown, hbe⟩ := hrel
  have hbs := hbe.out.size
  have hNb : N ≤ 32 := by have := hN.out; omega
  by_cases hj : j < 32
  ·have hc1 : decide ((j : Int) < 32) = true := by simp; omega
   have ca := (HR.out.below hbe.out (by omega)).get j (by rw [HLA.out]; exact hj)
   have q1 : (0 : Int) ≤ (j : Int) := by omega
   have q2 : (j : Int) < 32 := by omega
   obtain ⟨x, hx⟩ : ∃ x, a.getD j 0 = x := ⟨_, rfl⟩
   rw [hx] at ca
   have HX := zh hx; clear hx
   have HLL : Hid (N = (a.take j).length) := by show _ = _; rw [List.length_take, HLA.out, hN.out]; omega
   go_wp2_with (at_builtin; refine wpList_append_byte rfl (.tmp 9) (.tmp 13) 22 5 rfl Tryz.underlying22 Tryz.info5a w0.heap.size _ (a.take j) N rfl HLL.out (hown.out.alloc _) wr.heap.size x rfl (by simp) (by omega) (by simp; omega) ?_; intro sp5 cap5 w5 hown5 hg5)
   have hbe5 := (hbe.out.alloc hbs (.cells #[.int .u8 x] 5)).grown hg5 (by simp; omega) (own_baseC hown.out)
   go_roundg (32 - (j + 1))
   case measure => omega
   case rel =>
    refine ⟨j + 1, N + 1, sp5, cap5, by omega, by show _ = _; have := hN.out; omega, by go_num, rfl, ?_, hbe5⟩
    have := hown5.out
    show World.ownsRow _ _ _ _ _ _ _
    rw [take_snoc0 _ _ (by rw [HLA.out]; exact hj), HX.out]; exact this
  ·obtain rfl : j = 32 := by omega
   have hN2 := hN.out
   rw [List.take_of_length_le (by rw [HLA.out]; exact Nat.le_refl _)] at hown
   have hc1 : decide ((32 : Int) < 32) = false := by decide
   rw [show ((32 : Nat) : Int) = 32 from rfl]
   subst hN2
   have ho := hown.out
   rw [← HLA.out] at ho
   obtain ⟨sp7, cap7, e7, hsrc, hnil⟩ := src_of_own ho HA.out
   injection e7 with e1 e2 e3
   subst e1 e3
   rw [HLA.out] at hsrc
   have HSRC := zh hsrc
   have HWR : Hid (Below w.heap.size w wr) := HB.out.trans (hbe.out.mono (by omega))
   have hadd : 7 + (hexB a).length ≤ 9223372036854775807 := by rw [hexB_length, HLA.out]; omega
   clear ho hsrc hnil hown hbe hN
   go_wp2_with fail
   refine (refHex_any sp4 32 cap4 a wr HSRC.out (by omega)).mono ?_
   rintro e w3 ⟨rfl, hb3⟩
   have HB3 := zh (HWR.out.trans (hb3.mono (by omega)))
   clear hb3
   go_wp2
   go_ret
   exact ⟨by congr 2, HB3.out⟩
def hexd : List UInt8 := [48, 49, 50, 51, 52, 53, 54, 55, 56, 57, 97, 98, 99, 100, 101, 102]
def hexv (c : UInt8) : Nat := if 48 ≤ c.toNat ∧ c.toNat ≤ 57 then c.toNat - 48 else if 97 ≤ c.toNat ∧ c.toNat ≤ 102 then c.toNat - 87 else 16
theorem hexv_le (c : UInt8) : hexv c ≤ 16 := by unfold hexv; split <;> (try split) <;> omega
theorem index_hexlF : ∀ c : Fin 256, Lib.indexByte hexd (UInt8.ofNat c.val) = if hexv (UInt8.ofNat c.val) = 16 then -1 else (hexv (UInt8.ofNat c.val) : Int) := by decide +kernel
theorem index_hexl (c : UInt8) : Lib.indexByte hexd c = if hexv c = 16 then -1 else (hexv c : Int) := by
 have h := index_hexlF ⟨c.toNat, UInt8.toNat_lt _⟩
 simpa using h
def hby (l : List UInt8) (i : Nat) : Int := ((16 * hexv (l.getD (2 * i) 0) + hexv (l.getD (2 * i + 1) 0) : Nat) : Int)
def hok1 (l : List UInt8) (i : Nat) : Bool := decide (hexv (l.getD (2 * i) 0) < 16) && decide (hexv (l.getD (2 * i + 1) 0) < 16)
def hok (l : List UInt8) (n : Nat) : Bool := (List.range n).all (hok1 l)
def hbs (l : List UInt8) (n : Nat) : List Int := (List.range n).map (hby l)
theorem hbs_length (l : List UInt8) (n : Nat) : (hbs l n).length = n := by simp [hbs]
theorem hok_succ (l : List UInt8) (k : Nat) : hok l (k + 1) = (hok l k && hok1 l k) := by unfold hok; rw [List.range_succ, List.all_append]; simp
theorem hbs_succ (l : List UInt8) (k : Nat) : hbs l (k + 1) = hbs l k ++ [hby l k] := by unfold hbs; rw [List.range_succ, List.map_append]; rfl
theorem hok_bad {l : List UInt8} {k n : Nat} (h : hok1 l k = false) (hk : k < n) : hok l n = false := by
 unfold hok
 rw [List.all_eq_false]
 exact ⟨k, by simpa using hk, by rw [h]; simp⟩
theorem way_set (l : List UInt8) (L0 : List Int) (n k : Nat) (hl : L0.length = n) (hk : k < n) : (hbs l k ++ L0.drop k).set k (hby l k) = hbs l (k + 1) ++ L0.drop (k + 1) := by
 rw [List.set_append_right _ _ (by rw [hbs_length]; exact Nat.le_refl _), hbs_length, Nat.sub_self, hbs_succ, List.drop_eq_getElem_cons (l := L0) (i := k) (by omega), List.append_assoc]
 rfl
theorem way_length (l : List UInt8) (L0 : List Int) (n k : Nat) (hl : L0.length = n) (hk : k ≤ n) : (hbs l k ++ L0.drop k).length = n := by
 rw [List.length_append, hbs_length, List.length_drop]; omega
theorem or_hexlF : ∀ a b : Fin 16, (bits .or .i64 ((a.val : Int) * 16) (b.val : Int)) = ((16 * a.val + b.val : Nat) : Int) := by decide +kernel
theorem or_hexl (a b : Nat) (ha : a < 16) (hb : b < 16) : bits .or .i64 ((a : Int) * 16) (b : Int) = ((16 * a + b : Nat) : Int) := or_hexlF ⟨a, ha⟩ ⟨b, hb⟩
theorem indexByteLite_anyH (s : ByteArray) (c : Int) (w : World) :
 Calls Tryz.prog 126 #[.string s, .int .u8 c] w fun e w' => e = .returned (.int .i64 (Lib.indexByte s.data.toList c.toNat.toUInt8)) ∧ w = w' := by
 go_enter Tryz.func126, Tryz.ntmps126
 go_wp2
 rw [run_callFunc_extern Tryz.func141 (by kernel_rfl) (by kernel_rfl) (by kernel_rfl) (e := Extern.BytealgIndexByte.indexByte) (by kernel_rfl), Lib.run_indexByteString]
 simp only [Result.andThen]
 rw [Oper.upon_value]
 go_wp2
 go_ret
 exact ⟨rfl, rfl⟩
theorem indexByte_anyH (s : ByteArray) (c : Int) (w : World) :
 Calls Tryz.prog 106 #[.string s, .int .u8 c] w fun e w' => e = .returned (.int .i64 (Lib.indexByte s.data.toList c.toNat.toUInt8)) ∧ w = w' := by
 go_enter Tryz.func106, Tryz.ntmps106
 go_wp2_with (go_at_call 126; refine (indexByteLite_anyH _ _ _).mono ?_; rintro e w' ⟨rfl, rfl⟩)
 go_ret
 exact ⟨rfl, rfl⟩
theorem byteOfH (c : UInt8) : ((c.toNat : Int)).toNat.toUInt8 = c := by simp
theorem hexlIdx (c : UInt8) (w : World) :
 Calls Tryz.prog 106 #[.string ⟨#[48, 49, 50, 51, 52, 53, 54, 55, 56, 57, 97, 98, 99, 100, 101, 102]⟩, .int .u8 (c.toNat : Int)] w fun e w' => e = .returned (.int .i64 (if hexv c = 16 then -1 else (hexv c : Int))) ∧ w = w' :=
 (indexByte_anyH _ _ w).mono fun e w' ⟨he, hw⟩ => ⟨by rw [he, byteOfH, ← index_hexl]; rfl, hw⟩
theorem getD_data (s : ByteArray) (i : Nat) (h : i < s.size) : s.data.toList.getD i 0 = s[i] := by
 rw [List.getD_eq_getElem?_getD, List.getElem?_eq_getElem (by simpa using h)]; rfl
theorem unhex_any (g : Nat) (ty : TypeId) (L0 : List Int) (n : Nat) (s : ByteArray) (w : World) (hrow : RowIn w g ty .u8 L0) (hl : L0.length = n) (hn : n ≤ 64) :
 Calls Tryz.prog 140 #[.slice (some ⟨g, 0, none⟩) n n, .string s] w fun e w' => ∃ L : List Int, e = .returned (.bool (decide (s.size = 2 * n) && hok s.data.toList n)) ∧ L.length = n ∧ RowIn w' g ty .u8 L ∧ w.grownBy w' (some g) ∧ ((decide (s.size = 2 * n) && hok s.data.toList n) = true → L = hbs s.data.toList n) := by
 have HR := zh hrow; have HL := zh hl; clear hrow hl
 by_cases hsz : s.size = 2 * n
 ·have HSZ := zh hsz
  have ht : ((s.size : Int) != 2 * (n : Int)) = false := by rw [bne_eq_false_iff_eq]; omega
  go_enter Tryz.func140, Tryz.ntmps140
  go_wp2_with fail
  go_loopw [16] (fun i wr => ∃ k : Nat, k ≤ n ∧ i = .int .i64 k ∧ Hid (hok s.data.toList k = true) ∧ Hid (RowIn wr g ty .u8 (hbs s.data.toList k ++ L0.drop k)) ∧ Hid (w.grownBy wr (some g))) (fun i _ => n - (intOf i).toNat)
  case atStart => exact ⟨0, by omega, rfl, rfl, HR.out, World.grownBy.refl _ _⟩
  case round =>
   obtain ⟨k, hk, rfl, hok0, hrow, hgr⟩ := hrel
   by_cases hlt : k < n
   ·have hd : decide ((k : Int) < (n : Int)) = true := by simp; omega
    have p0 : 2 * k < s.size := by omega
    have p1 : 2 * k + 1 < s.size := by omega
    have p2 : (0 : Int) ≤ (k : Int) := by omega
    have p3 : (k : Int) < (n : Int) := by omega
    have p4 : (0 : Int) ≤ 2 * (k : Int) := by omega
    have p5 : 2 * (k : Int) < (s.size : Int) := by omega
    have p6 : (0 : Int) ≤ 2 * (k : Int) + 1 := by omega
    have p7 : 2 * (k : Int) + 1 < (s.size : Int) := by omega
    have p8 : (2 * (k : Int)).toNat = 2 * k := by omega
    have p9 : (2 * (k : Int) + 1).toNat = 2 * k + 1 := by omega
    have c0 := hrow.out.get k (by rw [way_length _ _ n k HL.out hk]; exact hlt)
    have f0 := hrow.out.free k
    obtain ⟨y, hy⟩ : ∃ y, (hbs s.data.toList k ++ L0.drop k).getD k 0 = y := ⟨_, rfl⟩
    rw [hy] at c0
    clear hy
    have g0 := getD_data s (2 * k) p0
    have g1 := getD_data s (2 * k + 1) p1
    have hl0 := hexv_le s[2 * k]
    have hl1 := hexv_le s[2 * k + 1]
    obtain ⟨x, hx⟩ : ∃ x, hexv s[2 * k] = x := ⟨_, rfl⟩
    obtain ⟨z, hz⟩ : ∃ z, hexv s[2 * k + 1] = z := ⟨_, rfl⟩
    have HO1 : Hid (hok1 s.data.toList k = (decide (x < 16) && decide (z < 16))) := by show _ = _; unfold hok1; rw [g0, g1, hx, hz]
    have HBY : Hid (hby s.data.toList k = ((16 * x + z : Nat) : Int)) := by show _ = _; unfold hby; rw [g0, g1, hx, hz]
    have HC0 := zh (fun w => hexlIdx s[2 * k] w)
    have HC1 := zh (fun w => hexlIdx s[2 * k + 1] w)
    rw [hx] at HC0 hl0
    rw [hz] at HC1 hl1
    have HSET := zh (way_set s.data.toList L0 n k HL.out hlt)
    have HSUC := zh (hok_succ s.data.toList k)
    clear g0 g1 hx hz
    have HROW := hrow; have HGR := hgr; clear hrow hgr
    by_cases hbad : x = 16 ∨ z = 16
    ·have HF : Hid ((decide (s.size = 2 * n) && hok s.data.toList n) = false) := by
      show _ = _
      rw [hok_bad (k := k) (by rw [HO1.out]; rcases hbad with h | h <;> simp [h]) hlt, Bool.and_false]
     have HWL := zh (way_length s.data.toList L0 n k HL.out hk)
     have main : ∀ (hi lo : Int), (if x = 16 then (-1 : Int) else (x : Int)) = hi → (if z = 16 then (-1 : Int) else (z : Int)) = lo → hi < 0 ∨ (¬ hi < 0 ∧ lo < 0) := by
      intro hi lo h1 h2
      rcases hbad with h | h
      ·left; rw [if_pos h] at h1; omega
      ·by_cases hh : x = 16
       ·left; rw [if_pos hh] at h1; omega
       ·right; rw [if_neg hh] at h1; rw [if_pos h] at h2; exact ⟨by omega, by omega⟩
     obtain ⟨hi, hhi⟩ : ∃ v, (if x = 16 then (-1 : Int) else (x : Int)) = v := ⟨_, rfl⟩
     obtain ⟨lo, hlo⟩ : ∃ v, (if z = 16 then (-1 : Int) else (z : Int)) = v := ⟨_, rfl⟩
     have hm := main hi lo hhi hlo
     rw [hhi] at HC0
     rw [hlo] at HC1
     clear main hhi hlo hbad HO1 HBY HSET HSUC
     rcases hm with hn0 | ⟨hn0, hn1⟩
     ·have e1 : decide (hi < 0) = true := by simp; omega
      go_wp2_with fail
      refine (HC0.out _).mono ?_
      rintro e w5 ⟨rfl, rfl⟩
      go_wp2_with fail
      refine (HC1.out _).mono ?_
      rintro e w5 ⟨rfl, rfl⟩
      go_wp2_with fail
      go_ret
      exact ⟨_, by rw [HF.out]; rfl, HWL.out, HROW.out, HGR.out, fun h => by rw [HF.out] at h; cases h⟩
     ·have e1 : decide (hi < 0) = false := by simp; omega
      have e2 : decide (lo < 0) = true := by simp; omega
      go_wp2_with fail
      refine (HC0.out _).mono ?_
      rintro e w5 ⟨rfl, rfl⟩
      go_wp2_with fail
      refine (HC1.out _).mono ?_
      rintro e w5 ⟨rfl, rfl⟩
      go_wp2_with fail
      go_ret
      exact ⟨_, by rw [HF.out]; rfl, HWL.out, HROW.out, HGR.out, fun h => by rw [HF.out] at h; cases h⟩
    ·have hx16 : x < 16 := by omega
     have hz16 : z < 16 := by omega
     rw [if_neg (by omega)] at HC0 HC1
     have HOK : Hid (hok s.data.toList (k + 1) = true) := by show _ = _; rw [HSUC.out, hok0.out, HO1.out, decide_eq_true hx16, decide_eq_true hz16]; rfl
     have hor := or_hexl x z hx16 hz16
     obtain ⟨m, hm⟩ : ∃ m, 16 * x + z = m := ⟨_, rfl⟩
     rw [hm] at HBY hor
     have hm256 : m < 256 := by omega
     have hw1 : ((m : Nat) : Int) % 256 = (m : Int) := by omega
     have e1 : decide ((x : Int) < 0) = false := by simp
     have e2 : decide ((z : Int) < 0) = false := by simp
     clear HO1 HSUC hbad hm
     go_wp2_with fail
     refine (HC0.out _).mono ?_
     rintro e w5 ⟨rfl, rfl⟩
     go_wp2_with fail
     refine (HC1.out _).mono ?_
     rintro e w5 ⟨rfl, rfl⟩
     go_wp2_with fail
     go_roundw
     case rel =>
      refine ⟨k + 1, by omega, by go_num, HOK, ?_, grown_set HGR.out _ _⟩
      have := HROW.out.put k (hby s.data.toList k)
      rw [HSET.out, HBY.out] at this
      exact this
     case measure => simp [intOf]; omega
   ·obtain rfl : k = n := by omega
    have hd : decide ((k : Int) < (k : Int)) = false := by simp
    have hall : hbs s.data.toList k ++ L0.drop k = hbs s.data.toList k := by rw [List.drop_eq_nil_of_le (by rw [HL.out]; exact Nat.le_refl _), List.append_nil]
    have HROW := hrow.out; rw [hall] at HROW
    have HT : Hid ((decide (s.size = 2 * k) && hok s.data.toList k) = true) := by show _ = _; rw [hok0.out, decide_eq_true hsz]; rfl
    have HRR := zh HROW; clear HROW hall hrow hsz
    go_wp2_with fail
    go_ret
    exact ⟨_, by rw [HT.out]; rfl, hbs_length _ _, HRR.out, hgr.out, fun _ => rfl⟩
 ·have ht : ((s.size : Int) != 2 * (n : Int)) = true := by rw [bne_iff_ne]; omega
  have hz : (decide (s.size = 2 * n) && hok s.data.toList n) = false := by rw [decide_eq_false hsz]; rfl
  rw [hz]
  clear hz hsz
  go_enter Tryz.func140, Tryz.ntmps140
  go_wp2
  go_ret
  exact ⟨L0, rfl, HL.out, HR.out, World.grownBy.refl _ _, fun h => by cases h⟩
def pok (l : List UInt8) (n : Nat) : Bool := decide (l.length = 2 * n) && hok l n
def pby (l : List UInt8) (n : Nat) : List Int := if pok l n = true then hbs l n else List.replicate n 0
theorem results_row_tmp {P : Program} {fn : Func} {p u : Tmp} {ty : TypeId} (h : fn.results = #[.cell p ty, .tmp u]) (tmps : Array Value) (w : World) (g : Nat) (t : TypeId) (cs : Array Value) (fr : Nat × Nat) (d : TypeDesc)
 (hp : tmps.getD p undef = .pointer (some ⟨g, 0, none⟩)) (hg : w.heap[g]? = some (.cells cs t fr))
 (hu : P.underlying ty = some d) (hd : (match d with | .struct _ | .array _ _ => true | _ => false) = true) (hi : (P.info? ty).map (·.size) = some cs.size) :
 (results fn tmps).run P w = .ok (.tuple #[.agg cs, tmps.getD u undef]) w := by
 rw [results_cell_tmp h, hp]
 simp [asAddr, run_loadVar_row w g t ty cs fr d hg hu hd hi]
def zrow (n : Nat) : Array Value := ((List.replicate n (0 : Int)).map (Value.int .u8)).toArray
theorem bzD (w : World) : (Instr.build 80 #[]).run Tryz.prog w = .ok (.agg (zrow 32)) w := by kernel_rfl
theorem row_info32 (L : List Int) (h : L.length = 32) : (Tryz.prog.info? 80).map (·.size) = some (L.map (Value.int .u8)).toArray.size := by rw [List.size_toArray, List.length_map, h]; exact Tryz.info25d
theorem row_sizes (A L : List Int) (h : A.length = L.length) : (A.map (Value.int .u8)).toArray.size = (L.map (Value.int .u8)).toArray.size := by simp [h]
def pfx : ByteArray := ⟨#[115, 104, 97, 50, 53, 54, 58]⟩
theorem ext_data (s : ByteArray) (i j : Nat) : (s.extract i j).data.toList = (s.data.toList.take j).drop i := by
 rw [ByteArray.data_extract, Array.toList_extract, List.extract_eq_take_drop, List.drop_take]
theorem take_eq (s : ByteArray) : ((s.extract 0 7).toList == pfx.toList) = decide (s.data.toList.take 7 = pfx.data.toList) := by
 rw [Lib.toList_data, Lib.toList_data, ext_data, List.drop_zero, Bool.eq_iff_iff, beq_iff_eq, decide_eq_true_iff]
theorem ret_boolH {a b : Bool} (h : a = b) : Ending.returned (.bool a) = .returned (.bool b) := by rw [h]
theorem hasPrefix_any (s : ByteArray) (w : World) (hs : s.size ≤ 9223372036854775807) :
 Calls Tryz.prog 160 #[.string s, .string pfx] w fun e w' => e = .returned (.bool (decide (s.data.toList.take 7 = pfx.data.toList))) ∧ w = w' := by
 by_cases h7 : 7 ≤ s.size
 ·have hd : decide ((s.size : Int) ≥ 7) = true := by simp; omega
  have q1 : (7 : Int) ≤ (s.size : Int) := by omega
  have hp : pfx.size = 7 := rfl
  go_enter Tryz.func160, Tryz.ntmps160
  go_wp2_with fail
  go_ret
  exact ⟨ret_boolH (take_eq s), rfl⟩
 ·have hp : pfx.size = 7 := rfl
  go_enter Tryz.func160, Tryz.ntmps160
  go_wp2_with fail
  go_ret
  refine ⟨ret_boolH (decide_eq_false (fun h => ?_)).symm, rfl⟩; have := congrArg List.length h; rw [List.length_take, ← Lib.size_eq] at this; rw [show pfx.data.toList.length = 7 from rfl] at this; omega
theorem cutLite_any (s : ByteArray) (w : World) (hs : s.size ≤ 9223372036854775807) :
 Calls Tryz.prog 154 #[.string s, .string pfx] w fun e w' => e = .returned (if s.data.toList.take 7 = pfx.data.toList then .tuple #[.string (s.extract 7 s.size), .bool true] else .tuple #[.string s, .bool false]) ∧ w = w' := by
 have HP := zh (fun w => hasPrefix_any s w hs)
 have hp : pfx.size = 7 := rfl
 by_cases hb : s.data.toList.take 7 = pfx.data.toList
 ·have h7 : 7 ≤ s.size := by
   have := congrArg List.length hb; rw [List.length_take, ← Lib.size_eq] at this; rw [show pfx.data.toList.length = 7 from rfl] at this; omega
  have q1 : (7 : Int) ≤ (s.size : Int) := by omega
  rw [decide_eq_true hb] at HP
  rw [if_pos hb]
  clear hb
  go_enter Tryz.func154, Tryz.ntmps154
  go_wp2_with fail
  refine (HP.out _).mono ?_
  rintro e w' ⟨rfl, rfl⟩
  go_wp2_with fail
  go_ret2
  exact ⟨rfl, rfl⟩
 ·rw [decide_eq_false hb] at HP
  rw [if_neg hb]
  clear hb
  go_enter Tryz.func154, Tryz.ntmps154
  go_wp2_with fail
  refine (HP.out _).mono ?_
  rintro e w' ⟨rfl, rfl⟩
  go_wp2_with fail
  go_ret2
  exact ⟨rfl, rfl⟩
theorem cut_any (s : ByteArray) (w : World) (hs : s.size ≤ 9223372036854775807) :
 Calls Tryz.prog 139 #[.string s, .string pfx] w fun e w' => e = .returned (if s.data.toList.take 7 = pfx.data.toList then .tuple #[.string (s.extract 7 s.size), .bool true] else .tuple #[.string s, .bool false]) ∧ w = w' := by
 have HP := zh (fun w => cutLite_any s w hs)
 by_cases hb : s.data.toList.take 7 = pfx.data.toList
 ·rw [if_pos hb] at HP ⊢
  clear hb
  go_enter Tryz.func139, Tryz.ntmps139
  go_wp2_with fail
  refine (HP.out _).mono ?_
  rintro e w' ⟨rfl, rfl⟩
  go_wp2_with fail
  go_ret2
  exact ⟨rfl, rfl⟩
 ·rw [if_neg hb] at HP ⊢
  clear hb
  go_enter Tryz.func139, Tryz.ntmps139
  go_wp2_with fail
  refine (HP.out _).mono ?_
  rintro e w' ⟨rfl, rfl⟩
  go_wp2_with fail
  go_ret2
  exact ⟨rfl, rfl⟩
def ppok (l : List UInt8) : Bool := decide (l.take 7 = pfx.data.toList) && pok (l.drop 7) 32
def ppby (l : List UInt8) : List Int := if ppok l = true then hbs (l.drop 7) 32 else List.replicate 32 0
theorem Parse_any (s : ByteArray) (w : World) (hs : s.size ≤ 9223372036854775807) :
 Calls Tryz.prog 125 #[.string s] w fun e w' => e = .returned (.tuple #[.agg ((ppby s.data.toList).map (Value.int .u8)).toArray, .bool (ppok s.data.toList)]) ∧ Below w.heap.size w w' := by
 have HR := zh (row_new w 80 .u8 (List.replicate 32 0))
 have HB := zh (below_alloc w (.cells ((List.replicate 32 0).map (Value.int .u8)).toArray 80))
 have HSZ := zh (alloc_size w (.cells ((List.replicate 32 0).map (Value.int .u8)).toArray 80))
 have HC : Hid (∀ w, Calls Tryz.prog 139 #[.string s, .string ⟨#[115, 104, 97, 50, 53, 54, 58]⟩] w fun e w' => e = .returned (if s.data.toList.take 7 = pfx.data.toList then .tuple #[.string (s.extract 7 s.size), .bool true] else .tuple #[.string s, .bool false]) ∧ w = w') := fun w => cut_any s w hs
 have hbz := bzD
 have HDD : Hid ((s.extract 7 s.size).data.toList = s.data.toList.drop 7) := by show _ = _; rw [ext_data, List.take_of_length_le (by rw [← Lib.size_eq]; exact Nat.le_refl _)]
 clear hs
 go_enter Tryz.func125, Tryz.ntmps125
 go_wp2_with fail
 generalize hw0 : World.alloc w _ = w0
 have hr0 : RowIn w0 w.heap.size 80 .u8 (List.replicate 32 0) := by rw [← hw0]; exact HR.out
 have hb0 : Below w.heap.size w w0 := by rw [← hw0]; exact HB.out
 have hs0 : w0.heap.size = w.heap.size + 1 := by rw [← hw0]; exact HSZ.out
 clear hw0 HR HB HSZ
 have hr1 : RowIn (w0.alloc (.cells (Array.replicate 32 (Value.int .u8 0)) 80)) w0.heap.size 80 .u8 (List.replicate 32 0) := row_new w0 80 .u8 (List.replicate 32 0)
 have hb1 := below_alloc w0 (.cells (Array.replicate 32 (Value.int .u8 0)) 80)
 generalize hw1 : World.alloc w0 _ = w1
 have hr1' : RowIn w1 (w.heap.size + 1) 80 .u8 (List.replicate 32 0) := by rw [← hw1, ← hs0]; exact hr1
 have hb1' : Below w0.heap.size w0 w1 := by rw [← hw1]; exact hb1
 clear hw1 hr1 hb1
 have hr01 := hr0.below hb1' (by omega)
 have hbe1 := hb0.trans (hb1'.mono (by omega))
 have HR1 := zh hr1'; have HR01 := zh hr01; have HBE1 := zh hbe1
 clear hr0 hb0 hs0 hr1' hb1' hr01 hbe1
 have HPB : Hid (ppby s.data.toList = if ppok s.data.toList = true then hbs (s.data.toList.drop 7) 32 else List.replicate 32 0) := rfl
 have HI : Hid ((Tryz.prog.info? 80).map (·.size) = some (zrow 32).size) := row_info32 (List.replicate 32 0) (by simp)
 have HO : Hid ((zrow 32).all (·.oneCell') = true) := oneCell_map .u8 _
 have HS : Hid (((List.replicate 32 (0 : Int)).map (Value.int .u8)).toArray.size = (zrow 32).size) := rfl
 refine (HC.out _).mono ?_
 by_cases hb : s.data.toList.take 7 = pfx.data.toList
 ·have HP : Hid (ppok s.data.toList = (decide ((s.extract 7 s.size).size = 2 * 32) && hok (s.extract 7 s.size).data.toList 32)) := by show _ = _; unfold ppok pok; rw [decide_eq_true hb, Bool.true_and, Lib.size_eq, HDD.out]
  rw [if_pos hb]
  clear hb
  rintro e w' ⟨rfl, rfl⟩
  go_wp2_with fail
  refine (unhex_any (w.heap.size + 1) 80 (List.replicate 32 0) 32 (s.extract 7 s.size) _ HR1.out (by simp) (by omega)).mono ?_
  rintro e w2 ⟨L, rfl, hL, hr2, hgr, hfin⟩
  have HR2 := zh hr2
  have HR0 := zh (HR01.out.grown hgr (by omega))
  have HBE : Hid (Below w.heap.size w w2) := HBE1.out.trans ((below_of_grown hgr (by have := HR1.out.lt; omega)).mono (by omega))
  rw [HDD.out] at hfin HP ⊢
  clear hr2 hgr
  generalize (decide ((s.extract 7 s.size).size = 2 * 32) && hok (s.data.toList.drop 7) 32) = bv at *
  have HLL := zh hL; clear hL
  cases bv
  ·have HPB2 : Hid (ppby s.data.toList = List.replicate 32 0) := by show _ = _; rw [HPB.out, if_neg (by rw [HP.out]; simp)]
   clear hfin
   go_wp2_with (refine wpList_store_row rfl 80 _ _ rfl w.heap.size (zrow 32) rfl rfl 80 _ HR0.out HI.out HS.out HO.out ?_)
   exact bodyPost_ret (results_row_tmp (P := Tryz.prog) rfl _ _ w.heap.size 80 (zrow 32) (0, 0) _ rfl (setRow_heap _ _ _ _ _ _ HR0.out) Tryz.underlying80 rfl HI.out) rfl ⟨by rw [HPB2.out, HP.out]; rfl, below_setRow HBE.out (Nat.le_refl _) _⟩
  ·have HPB2 : Hid (ppby s.data.toList = L) := by show _ = _; rw [HPB.out, if_pos HP.out, hfin rfl]
   clear hfin hbz
   have HI := zh (row_info32 L HLL.out); have HO := zh (oneCell_map .u8 L); have HS := zh (row_sizes (List.replicate 32 0) L (by rw [HLL.out]; simp))
   go_wp2_with (first
    | (refine wpList_load_row rfl 80 _ rfl (w.heap.size + 1) rfl 80 _ (0, 0) _ HR2.out Tryz.underlying80 rfl HI.out ?_)
    | (refine wpList_store_row rfl 80 _ _ rfl w.heap.size _ rfl rfl 80 _ HR0.out HI.out HS.out HO.out ?_))
   exact bodyPost_ret (results_row_tmp (P := Tryz.prog) rfl _ _ w.heap.size 80 _ (0, 0) _ rfl (HR0.out.setRow _) Tryz.underlying80 rfl HI.out) rfl ⟨by rw [HPB2.out, HP.out]; rfl, below_setRow HBE.out (Nat.le_refl _) _⟩
 ·have HP : Hid (ppok s.data.toList = false) := by show _ = _; unfold ppok; rw [decide_eq_false hb]; rfl
  have HPB2 : Hid (ppby s.data.toList = List.replicate 32 0) := by show _ = _; rw [HPB.out, if_neg (by rw [HP.out]; simp)]
  rw [if_neg hb]
  clear hb
  rintro e w' ⟨rfl, rfl⟩
  go_wp2_with (refine wpList_store_row rfl 80 _ _ rfl w.heap.size (zrow 32) rfl rfl 80 _ HR01.out HI.out HS.out HO.out ?_)
  exact bodyPost_ret (results_row_tmp (P := Tryz.prog) rfl _ _ w.heap.size 80 (zrow 32) (0, 0) _ rfl (setRow_heap _ _ _ _ _ _ HR01.out) Tryz.underlying80 rfl HI.out) rfl ⟨by rw [HPB2.out, HP.out]; rfl, below_setRow HBE1.out (Nat.le_refl _) _⟩
theorem hok_at {l : List UInt8} {n : Nat} (h : hok l n = true) (i : Nat) (hi : i < n) : hexv (l.getD (2 * i) 0) < 16 ∧ hexv (l.getD (2 * i + 1) 0) < 16 := by
 unfold hok at h
 have := (List.all_eq_true.1 h) i (by simpa using hi)
 unfold hok1 at this
 simpa using this
theorem hbs_byt {l : List UInt8} {n : Nat} (h : hok l n = true) : Byt (hbs l n) := fun x hx => by
 unfold hbs at hx
 obtain ⟨i, hi, rfl⟩ := List.mem_map.1 hx
 have := hok_at h i (by simpa using hi)
 unfold hby; omega
def fmtD (d : List Int) : ByteArray := ⟨([115, 104, 97, 50, 53, 54, 58] ++ hexB d).toArray⟩
theorem fmtD_list (d : List Int) : (fmtD d).data.toList = pfx.data.toList ++ hexB d := rfl
theorem wpList_load_row_g {P : Program} {ops : Array Oper} {rest : List Oper} {o : Oper} {a : Act} {w : World} {Q : Exit → Act → World → Prop} (hw : Region.wanted o (yielded ops a.tmps) = true) (ty : TypeId) (x : Operand) (ho : o.op = .load ty x)
 (g : Nat) (hx : a.eval x = .pointer (some ⟨g, 0, none⟩)) (t : TypeId) (cs : Array Value) (fr : Nat × Nat) (d : TypeDesc) (hg : w.heap[g]? = some (.cells cs t fr))
 (hu : P.underlying ty = some d) (hd : (match d with | .struct _ | .array _ _ => true | _ => false) = true) (hi : (P.info? ty).map (·.size) = some cs.size)
 (h : wpList P ops Q rest (a.put o.dst (.agg cs)) w) : wpList P ops Q (o :: rest) a w :=
 wpList_step fun K hK => by rw [if_pos hw]; exact wp_load_row ty x ho g hx t cs fr d hg hu hd hi (hK _ _ h)
def lineE (tag : ByteArray) (x : En) : List ByteArray := [tag, x.p, fmtD x.d]
def rd1 (tag : ByteArray) : List ByteArray → Option En
 | [t, p, f] => if t = tag then (if ppok f.data.toList = true then some ⟨p, ppby f.data.toList⟩ else none) else none
 | _ => none
def rawL (tag : ByteArray) : List (List ByteArray) → Option (List En)
 | [] => some []
 | l :: r => match rd1 tag l with
   | none => none
   | some x => (rawL tag r).map (x :: ·)
theorem rawL_none {tag : ByteArray} {l : List ByteArray} {r : List (List ByteArray)} (h : rd1 tag l = none) : rawL tag (l :: r) = none := by rw [rawL, h]
theorem rawL_some {tag : ByteArray} {l : List ByteArray} {x : En} {r : List (List ByteArray)} (h : rd1 tag l = some x) : rawL tag (l :: r) = (rawL tag r).map (x :: ·) := by rw [rawL, h]
theorem rd1_len {tag : ByteArray} {l : List ByteArray} (h : l.length ≠ 3) : rd1 tag l = none := by
 match l with
 | [] => rfl
 | [_] => rfl
 | [_, _] => rfl
 | [_, _, _] => exact absurd rfl h
 | _ :: _ :: _ :: _ :: _ => rfl
theorem rd1_tag {tag t p f : ByteArray} (h : t ≠ tag) : rd1 tag [t, p, f] = none := by simp [rd1, h]
theorem rd1_bad {tag p f : ByteArray} (h : ppok f.data.toList = false) : rd1 tag [tag, p, f] = none := by simp [rd1, h]
theorem rd1_good {tag p f : ByteArray} (h : ppok f.data.toList = true) : rd1 tag [tag, p, f] = some ⟨p, ppby f.data.toList⟩ := by simp [rd1, h]
theorem three_of {l : List ByteArray} (h : l.length = 3) : ∃ a b c, l = [a, b, c] := by
 match l, h with
 | [a, b, c], _ => exact ⟨a, b, c, rfl⟩
theorem rawL_step {tag : ByteArray} {L : List (List ByteArray)} {done : List En} {k : Nat} {l : List ByteArray} {x : En} (h : rawL tag L = (rawL tag (L.drop k)).map (done ++ ·)) (hl : L[k]? = some l) (hx : rd1 tag l = some x) : rawL tag L = (rawL tag (L.drop (k + 1))).map ((done ++ [x]) ++ ·) := by
 have hk := (List.getElem?_eq_some_iff.1 hl)
 obtain ⟨hk1, hk2⟩ := hk
 rw [h, List.drop_eq_getElem_cons hk1, hk2, rawL_some hx, Option.map_map]
 congr 1
 funext z
 simp
theorem rawL_stop {tag : ByteArray} {L : List (List ByteArray)} {done : List En} {k : Nat} {l : List ByteArray} (h : rawL tag L = (rawL tag (L.drop k)).map (done ++ ·)) (hl : L[k]? = some l) (hx : rd1 tag l = none) : rawL tag L = none := by
 obtain ⟨hk1, hk2⟩ := List.getElem?_eq_some_iff.1 hl
 rw [h, List.drop_eq_getElem_cons hk1, hk2, rawL_none hx]; rfl
theorem rawL_end {tag : ByteArray} {L : List (List ByteArray)} {done : List En} {k : Nat} (h : rawL tag L = (rawL tag (L.drop k)).map (done ++ ·)) (hk : L.length ≤ k) : rawL tag L = some done := by
 rw [h, List.drop_eq_nil_of_le hk]; simp [rawL]
theorem rawL_length {tag : ByteArray} : ∀ {L : List (List ByteArray)} {l : List En}, rawL tag L = some l → l.length = L.length
 | [], l, h => by cases h; rfl
 | a :: L, l, h => by
   cases hx : rd1 tag a with
   | none => rw [rawL_none hx] at h; cases h
   | some x =>
     rw [rawL_some hx] at h
     cases hr : rawL tag L with
     | none => rw [hr] at h; cases h
     | some m =>
       rw [hr] at h
       have e : x :: m = l := by injection h
       subst e
       have := rawL_length hr
       simp [this]
theorem ppby_byt (l : List UInt8) : D32 (ppby l) := by
 refine ⟨ppby_length' l, ?_⟩
 unfold ppby
 split
 ·rename_i h
  have hb := h
  unfold ppok pok at hb
  simp only [Bool.and_eq_true, decide_eq_true_eq] at hb
  exact hbs_byt hb.2.2
 ·intro x hx
  rw [List.eq_of_mem_replicate hx]; omega
where ppby_length' (l : List UInt8) : (ppby l).length = 32 := by unfold ppby; split <;> simp [hbs_length]
def readL (tag : ByteArray) (L : List (List ByteArray)) : Except Int (List En) := match rawL tag L with
 | none => .error 2
 | some l => if vldE l then .ok l else .error 1
theorem readL_none {tag : ByteArray} {L : List (List ByteArray)} (h : rawL tag L = none) : readL tag L = .error 2 := by unfold readL; rw [h]
theorem readL_some {tag : ByteArray} {L : List (List ByteArray)} {l : List En} (h : rawL tag L = some l) : readL tag L = if vldE l then .ok l else .error 1 := by unfold readL; rw [h]
theorem own_shapeL {w : World} {base e size : Nat} {v : Value} {n : Nat} {xs : List Value} (h : w.ownsRow base e size v n xs) : ∃ sp cap, v = .slice sp n cap := by
 obtain ⟨_, ⟨rfl, rfl⟩ | ⟨g, cap, cur, rfl, _⟩⟩ := h
 ·exact ⟨none, 0, rfl⟩
 ·exact ⟨_, cap, rfl⟩
theorem own_baseL {w : World} {base e size : Nat} {v : Value} {n : Nat} {xs : List Value} (h : w.ownsRow base e size v n xs) : ∀ k, v.ownBlock = some k → base ≤ k := fun k hk => (h.lt k hk).1
theorem own_belowL {w w' : World} {B e size n : Nat} {v : Value} {xs : List Value} (h : w.ownsRow B e size v n xs) (hb : Below w.heap.size w w') : w'.ownsRow B e size v n xs := by
 obtain ⟨h0, h1 | ⟨g, cap, cur, h1, h2, h3, h4⟩⟩ := h
 ·exact ⟨h0, .inl h1⟩
 ·exact ⟨h0, .inr ⟨g, cap, cur, h1, h2, (hb.block g (Array.getElem?_eq_some_iff.1 h3).1).trans h3, h4⟩⟩
theorem own_apartL {w : World} {b1 b2 e1 e2 s1 s2 : Nat} {v1 v2 : Value} {n1 n2 : Nat} {x1 x2 : List Value} (h1 : w.ownsRow b1 e1 s1 v1 n1 x1) (h2 : w.ownsRow b2 e2 s2 v2 n2 x2) (hne : e1 ≠ e2) : v1.ownBlock = none ∨ v1.ownBlock ≠ v2.ownBlock := by
 obtain ⟨_, ⟨rfl, _⟩ | ⟨g1, c1, u1, rfl, _, g1h, _⟩⟩ := h1
 ·exact .inl rfl
 ·obtain ⟨_, ⟨rfl, _⟩ | ⟨g2, c2, u2, rfl, _, g2h, _⟩⟩ := h2
  ·exact .inr (by simp [Value.ownBlock])
  ·refine .inr (fun e => hne ?_)
   have e' : g1 = g2 := by simpa [Value.ownBlock] using e
   subst e'
   rw [g1h] at g2h
   injection g2h with g2h
   injection g2h
theorem infoLnL : (Tryz.prog.info? 27).map (fun i => (i.zero, i.size, i.bytes)) = some (some (.slice none 0 0), 1, 24) := by kernel_rfl
def LnOwnL (w : World) (base : Nat) (q : Ln) : Prop := w.ownsRow base 9 1 (.slice q.sp q.n q.cap) q.n (q.l.map Value.string)
theorem lnOwn_new3 (w : World) (base : Nat) (hb : base ≤ w.heap.size) (a b c : ByteArray) : LnOwnL (w.alloc (.cells #[.string a, .string b, .string c] 9)) base ⟨some ⟨w.heap.size, 0, none⟩, 3, 3, [a, b, c]⟩ :=
 ⟨rfl, .inr ⟨w.heap.size, 3, _, rfl, hb, heap_alloc_new w _, Nat.le_refl _, by unfold maxLen; omega, rfl, rfl⟩⟩
theorem LnOwnL.strs {w : World} {base : Nat} {q : Ln} (h : LnOwnL w base q) : StrsIn w w.heap.size q.sp q.n q.l := by
 obtain ⟨hl, h2⟩ := h
 rw [List.length_map, Nat.mul_one] at hl
 refine ⟨hl, fun hn => ?_⟩
 rcases h2 with ⟨e, h0⟩ | ⟨g, cap, cur, e, hb, hg, hc, hm, hs, ht⟩
 ·omega
 ·injection e with e1 e2 e3
  refine ⟨g, 0, e1, (Array.getElem?_eq_some_iff.1 hg).1, fun j hj => ?_⟩
  rw [cell_of_row w g (0 + j) cur _ _ hg, Nat.zero_add]
  have h5 : (cur.toList.take (q.n * 1))[j]? = some (.string q.l[j]) := by rw [ht]; simp [hj]
  rw [List.getElem?_take, if_pos (by omega)] at h5
  simpa using h5
theorem lines_own {w : World} {base base' : Nat} {sp : Option Addr} {cap : Nat} {ls : List Ln} (h : w.ownsRow base 27 1 (.slice sp ls.length cap) ls.length (ls.map Ln.val)) (hq : ∀ q ∈ ls, LnOwnL w base' q) : LinesIn w w.heap.size sp ls.length ls := by
 obtain ⟨hl, h2⟩ := h
 refine ⟨rfl, fun hn => ?_, fun q hq' => (hq q hq').strs⟩
 rcases h2 with ⟨e, h0⟩ | ⟨g, cap', cur, e, hb, hg, hc, hm, hs, ht⟩
 ·omega
 ·injection e with e1 e2 e3
  refine ⟨g, 0, e1, (Array.getElem?_eq_some_iff.1 hg).1, fun j hj => ?_⟩
  rw [cell_of_row w g (0 + j) cur _ _ hg, Nat.zero_add]
  have h5 : (cur.toList.take (ls.length * 1))[j]? = some ls[j].val := by rw [ht]; simp [hj]
  rw [List.getElem?_take, if_pos (by omega)] at h5
  simpa using h5
structure LnsOwn (w : World) (base : Nat) (v : Value) (done : List Ln) : Prop where
 row : w.ownsRow base 27 1 v done.length (done.map Ln.val)
 each : ∀ q ∈ done, LnOwnL w base q
theorem LnsOwn.nil (w : World) (base : Nat) : LnsOwn w base (.slice none 0 0) [] := ⟨World.ownsRow_nil w base _ _, fun q hq => by cases hq⟩
theorem LnsOwn.below {w w' : World} {base : Nat} {v : Value} {done : List Ln} (h : LnsOwn w base v done) (hb : Below w.heap.size w w') : LnsOwn w' base v done :=
 ⟨own_belowL h.row hb, fun q hq => own_belowL (h.each q hq) hb⟩
theorem LnsOwn.lines {w : World} {base : Nat} {sp : Option Addr} {n cap : Nat} {done : List Ln} (h : LnsOwn w base (.slice sp n cap) done) (hn : done.length = n) : LinesIn w w.heap.size sp n done := by
 subst hn
 exact lines_own h.row h.each
theorem slice3 (w : World) (a b c : ByteArray) : (Instr.buildSlice 27 3 #[(0, .string a), (1, .string b), (2, .string c)]).run Tryz.prog w = .ok (.slice (some ⟨w.heap.size, 0, none⟩) 3 3) (w.alloc (.cells #[.string a, .string b, .string c] 9)) := by kernel_rfl
theorem slice1L (w : World) (g : Nat) : (Instr.buildSlice 59 1 #[(0, .slice (some ⟨g, 0, none⟩) 3 3)]).run Tryz.prog w = .ok (.slice (some ⟨w.heap.size, 0, none⟩) 1 1) (w.alloc (.cells #[.slice (some ⟨g, 0, none⟩) 3 3] 27)) := by kernel_rfl
theorem wp_append_lns {o : Oper} {a : Act} {w : World} {K : Act → World → Prop} {Q : Exit → Act → World → Prop} (s x : Operand)
 (ho : o.op = .call { callee := .builtin .append, args := #[s, x], argTypes := #[59, 59] }) (base : Nat) (v : Value) (done : List Ln) (n : Nat) (hn : n = done.length) (hs : a.eval s = v) (hown : LnsOwn w base v done)
 (g : Nat) (y : Ln) (hx : a.eval x = .slice (some ⟨g, 0, none⟩) 1 1) (hc : w.cell? ⟨g, 0, none⟩ = some y.val) (hy : LnOwnL w base y) (hlen : n ≤ 1000000) (hbase : base ≤ w.heap.size)
 (h : ∀ sp cap w', Hid (LnsOwn w' base (.slice sp (n + 1) cap) (done ++ [y])) → Hid (Below base w w') → Hid (w.grownBy w' v.ownBlock) → K (a.put o.dst (.slice sp (n + 1) cap)) w') : o.wp Tryz.prog a w K Q := by
 subst hn
 obtain ⟨i0, hi0, hz0, hz1, hz2⟩ := info_parts infoLnL
 refine wp_append_own w s x _ ho base _ i0 _ 1 24 Tryz.underlying59 hi0 hz0 hz1 hz2 rfl (by decide) v done.length _ hs hown.row ⟨g, 0, none⟩ 1 1 [y.val] hx rfl ?_ (by intro u hu; simp at hu; subst hu; rfl) (by unfold maxLen; omega) (by omega) hbase ?_
 ·intro j u hj
  have hj0 : j = 0 := by have := (List.getElem?_eq_some_iff.1 hj).1; simp at this; omega
  subst hj0
  simp at hj; subst hj; rw [Addr.add_mid]; exact hc
 ·intro v' w' h1 h2 _
  obtain ⟨sp, cap, rfl⟩ := own_shapeL h1
  refine h sp cap w' ⟨by rw [List.length_append, List.map_append]; exact h1, fun q hq => ?_⟩ ((Below.refl base w).grown h2 hbase (own_baseL hown.row)) h2
  have hq1 : LnOwnL w base q := by
   rcases List.mem_append.1 hq with h | h
   ·exact hown.each q h
   ·rw [List.mem_singleton.1 h]; exact hy
  exact World.ownsRow.kept hq1 h2 (own_apartL hq1 hown.row (by decide))
end Go.Proofs.YtecllfbadciaoaaGreatDoor
