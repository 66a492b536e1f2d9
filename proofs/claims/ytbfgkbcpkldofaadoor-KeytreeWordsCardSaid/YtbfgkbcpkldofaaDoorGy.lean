/-
  Plain mathematics, without conditions beyond those of each lemma: what hexadecimal digits stand for, and that it is what was written (no program is named here but for its name space).
-/
import Derived.Test.YtbfgkbcpkldofaaDoorGx
import Derived.Lib.Bytealg
import Derived.IntWalk
import Derived.Deep.RegionHeld3
namespace Go.Proofs.YtbfgkbcpkldofaaDoor
open Go.RowKit

/-- the lower-case hexadecimal digits; the value of a digit, 16 if it is none -/
def hexd : List UInt8 := [48, 49, 50, 51, 52, 53, 54, 55, 56, 57, 97, 98, 99, 100, 101, 102]
def hexv (c : UInt8) : Nat := if 48 ≤ c.toNat ∧ c.toNat ≤ 57 then c.toNat - 48 else if 97 ≤ c.toNat ∧ c.toNat ≤ 102 then c.toNat - 87 else 16
theorem hexv_le (c : UInt8) : hexv c ≤ 16 := by unfold hexv; split <;> (try split) <;> omega
theorem index_hexlF : ∀ c : Fin 256, Lib.indexByte hexd (UInt8.ofNat c.val) = if hexv (UInt8.ofNat c.val) = 16 then -1 else (hexv (UInt8.ofNat c.val) : Int) := by decide +kernel
theorem index_hexl (c : UInt8) : Lib.indexByte hexd c = if hexv c = 16 then -1 else (hexv c : Int) := by
  have h := index_hexlF ⟨c.toNat, UInt8.toNat_lt _⟩
  simpa using h
/-- the byte at place i of what a text stands for; whether the digits at place i are digits; the first n -/
def hby (l : List UInt8) (i : Nat) : Int := ((16 * hexv (l.getD (2 * i) 0) + hexv (l.getD (2 * i + 1) 0) : Nat) : Int)
def hok1 (l : List UInt8) (i : Nat) : Bool := decide (hexv (l.getD (2 * i) 0) < 16) && decide (hexv (l.getD (2 * i + 1) 0) < 16)
def hok (l : List UInt8) (n : Nat) : Bool := (List.range n).all (hok1 l)
def hbs (l : List UInt8) (n : Nat) : List Int := (List.range n).map (hby l)
theorem hbs_length (l : List UInt8) (n : Nat) : (hbs l n).length = n := by simp [hbs]
theorem hok_succ (l : List UInt8) (k : Nat) : hok l (k + 1) = (hok l k && hok1 l k) := by unfold hok; rw [List.range_succ, List.all_append]; simp
theorem hbs_succ (l : List UInt8) (k : Nat) : hbs l (k + 1) = hbs l k ++ [hby l k] := by unfold hbs; rw [List.range_succ, List.map_append]; rfl
theorem hok_bad {l : List UInt8} {k n : Nat} (h : hok1 l k = false) (hk : k < n) : hok l n = false := by
  unfold hok
  rw [List.all_eq_false]
  exact ⟨k, by simpa using hk, by rw [h]; simp⟩
/-- the row on the way: k bytes written, the others as they were -/
theorem way_set (l : List UInt8) (L0 : List Int) (n k : Nat) (hl : L0.length = n) (hk : k < n) : (hbs l k ++ L0.drop k).set k (hby l k) = hbs l (k + 1) ++ L0.drop (k + 1) := by
  rw [List.set_append_right _ _ (by rw [hbs_length]; exact Nat.le_refl _), hbs_length, Nat.sub_self, hbs_succ, List.drop_eq_getElem_cons (l := L0) (i := k) (by omega), List.append_assoc]
  rfl
theorem way_length (l : List UInt8) (L0 : List Int) (n k : Nat) (hl : L0.length = n) (hk : k ≤ n) : (hbs l k ++ L0.drop k).length = n := by
  rw [List.length_append, hbs_length, List.length_drop]; omega
theorem or_hexlF : ∀ a b : Fin 16, (bits .or .i64 ((a.val : Int) * 16) (b.val : Int)) = ((16 * a.val + b.val : Nat) : Int) := by decide +kernel
theorem or_hexl (a b : Nat) (ha : a < 16) (hb : b < 16) : bits .or .i64 ((a : Int) * 16) (b : Int) = ((16 * a + b : Nat) : Int) := or_hexlF ⟨a, ha⟩ ⟨b, hb⟩
/-- what is written is read -/
theorem hexv_hexlF : ∀ n : Fin 16, hexv (hexl n.val) = n.val := by decide +kernel
theorem hexv_hexl (n : Nat) (h : n < 16) : hexv (hexl n) = n := hexv_hexlF ⟨n, h⟩
theorem hexB_at (a : List Int) (i : Nat) (h : i < a.length) : (hexB a).getD (2 * i) 0 = hexl ((a.getD i 0).toNat / 16) ∧ (hexB a).getD (2 * i + 1) 0 = hexl ((a.getD i 0).toNat % 16) := by
  induction a generalizing i with
  | nil => simp at h
  | cons x r ih =>
    match i with
    | 0 => exact ⟨rfl, rfl⟩
    | j + 1 =>
      have := ih j (by simpa using h)
      rw [show 2 * (j + 1) = 2 * j + 1 + 1 by omega]
      exact this
theorem hok_hexB (a : List Int) (ha : Byt a) : hok (hexB a) a.length = true := by
  unfold hok
  rw [List.all_eq_true]
  intro i hi
  have hi' : i < a.length := by simpa using hi
  have hx := ha.at_ i
  obtain ⟨h1, h2⟩ := hexB_at a i hi'
  unfold hok1
  rw [h1, h2, hexv_hexl _ (by omega), hexv_hexl _ (by omega), decide_eq_true (by omega), decide_eq_true (by omega)]; rfl
theorem hbs_hexB (a : List Int) (ha : Byt a) : hbs (hexB a) a.length = a := by
  apply List.ext_getElem
  · rw [hbs_length]
  · intro i h1 h2
    have hx := ha.at_ i
    obtain ⟨e1, e2⟩ := hexB_at a i h2
    have e : (hbs (hexB a) a.length)[i] = hby (hexB a) i := by simp [hbs]
    rw [e]; unfold hby
    rw [e1, e2, hexv_hexl _ (by omega), hexv_hexl _ (by omega)]
    have : a.getD i 0 = a[i] := by simp [List.getD_eq_getElem?_getD, List.getElem?_eq_getElem h2]
    rw [this] at hx ⊢; omega
end Go.Proofs.YtbfgkbcpkldofaaDoor

namespace Go.Proofs.YtbfgkbcpkldofaaDoor
open Go.RowKit

set_option maxHeartbeats 400000 in
set_option maxRecDepth 100000 in
theorem indexByteLite_anyH (s : ByteArray) (c : Int) (w : World) :
    Calls Tryd.prog 123 #[.string s, .int .u8 c] w fun e w' => e = .returned (.int .i64 (Lib.indexByte s.data.toList c.toNat.toUInt8)) ∧ w = w' := by
  go_enter Tryd.func123, Tryd.ntmps123
  go_wp2
  rw [run_callFunc_extern Tryd.func134 (by kernel_rfl) (by kernel_rfl) (by kernel_rfl) (e := Extern.BytealgIndexByte.indexByte) (by kernel_rfl), Lib.run_indexByteString]
  simp only [Result.andThen]
  rw [Oper.upon_value]
  go_wp2
  go_ret
  exact ⟨rfl, rfl⟩
set_option maxHeartbeats 400000 in
theorem indexByte_anyH (s : ByteArray) (c : Int) (w : World) :
    Calls Tryd.prog 98 #[.string s, .int .u8 c] w fun e w' => e = .returned (.int .i64 (Lib.indexByte s.data.toList c.toNat.toUInt8)) ∧ w = w' := by
  go_enter Tryd.func98, Tryd.ntmps98
  go_wp2_with (go_at_call 123; refine (indexByteLite_anyH _ _ _).mono ?_; rintro e w' ⟨rfl, rfl⟩)
  go_ret
  exact ⟨rfl, rfl⟩
theorem byteOfH (c : UInt8) : ((c.toNat : Int)).toNat.toUInt8 = c := by simp
theorem hexlIdx (c : UInt8) (w : World) :
    Calls Tryd.prog 98 #[.string ⟨#[48, 49, 50, 51, 52, 53, 54, 55, 56, 57, 97, 98, 99, 100, 101, 102]⟩, .int .u8 (c.toNat : Int)] w fun e w' => e = .returned (.int .i64 (if hexv c = 16 then -1 else (hexv c : Int))) ∧ w = w' :=
  (indexByte_anyH _ _ w).mono fun e w' ⟨he, hw⟩ => ⟨by rw [he, byteOfH, ← index_hexl]; rfl, hw⟩

theorem getD_data (s : ByteArray) (i : Nat) (h : i < s.size) : s.data.toList.getD i 0 = s[i] := by
  rw [List.getD_eq_getElem?_getD, List.getElem?_eq_getElem (by simpa using h)]; rfl
set_option maxRecDepth 100000 in
set_option maxHeartbeats 1000000 in
theorem unhex_any (g : Nat) (ty : TypeId) (L0 : List Int) (n : Nat) (s : ByteArray) (w : World) (hrow : RowIn w g ty .u8 L0) (hl : L0.length = n) (hn : n ≤ 64) :
    Calls Tryd.prog 73 #[.slice (some ⟨g, 0, none⟩) n n, .string s] w fun e w' => ∃ L : List Int, e = .returned (.bool (decide (s.size = 2 * n) && hok s.data.toList n)) ∧ L.length = n ∧ RowIn w' g ty .u8 L ∧ w.grownBy w' (some g) ∧ ((decide (s.size = 2 * n) && hok s.data.toList n) = true → L = hbs s.data.toList n) := by
  have HR := Lib.hid hrow; have HL := Lib.hid hl; clear hrow hl
  by_cases hsz : s.size = 2 * n
  · have HSZ := Lib.hid hsz
    have ht : ((s.size : Int) != 2 * (n : Int)) = false := by rw [bne_eq_false_iff_eq]; omega
    go_enter Tryd.func73, Tryd.ntmps73
    go_wp2_with fail
    go_loopw [16] (fun i wr => ∃ k : Nat, k ≤ n ∧ i = .int .i64 k ∧ Hid (hok s.data.toList k = true) ∧ Hid (RowIn wr g ty .u8 (hbs s.data.toList k ++ L0.drop k)) ∧ Hid (w.grownBy wr (some g))) (fun i _ => n - (intOf i).toNat)
    case atStart => exact ⟨0, by omega, rfl, rfl, HR.out, World.grownBy.refl _ _⟩
    case round =>
      obtain ⟨k, hk, rfl, hok0, hrow, hgr⟩ := hrel
      by_cases hlt : k < n
      · have hd : decide ((k : Int) < (n : Int)) = true := by simp; omega
        have p0 : 2 * k < s.size := by omega
        have p1 : 2 * k + 1 < s.size := by omega
        have p2 : (0 : Int) ≤ (k : Int) := by omega
        have p3 : (k : Int) < (n : Int) := by omega
        have p4 : (0 : Int) ≤ 2 * (k : Int) := by omega
        have p5 : 2 * (k : Int) < (s.size : Int) := by omega
        have p6 : (0 : Int) ≤ 2 * (k : Int) + 1 := by omega
        have p7 : 2 * (k : Int) + 1 < (s.size : Int) := by omega
        have p8 : (2 * (k : Int)).toNat = 2 * k := by omega
        have p9 : (2 * (k : Int) + 1).toNat = 2 * k + 1 := by omega
        have c0 := hrow.out.get k (by rw [way_length _ _ n k HL.out hk]; exact hlt)
        have f0 := hrow.out.free k
        obtain ⟨y, hy⟩ : ∃ y, (hbs s.data.toList k ++ L0.drop k).getD k 0 = y := ⟨_, rfl⟩
        rw [hy] at c0
        clear hy
        have g0 := getD_data s (2 * k) p0
        have g1 := getD_data s (2 * k + 1) p1
        have hl0 := hexv_le s[2 * k]
        have hl1 := hexv_le s[2 * k + 1]
        obtain ⟨x, hx⟩ : ∃ x, hexv s[2 * k] = x := ⟨_, rfl⟩
        obtain ⟨z, hz⟩ : ∃ z, hexv s[2 * k + 1] = z := ⟨_, rfl⟩
        have HO1 : Hid (hok1 s.data.toList k = (decide (x < 16) && decide (z < 16))) := by show _ = _; unfold hok1; rw [g0, g1, hx, hz]
        have HBY : Hid (hby s.data.toList k = ((16 * x + z : Nat) : Int)) := by show _ = _; unfold hby; rw [g0, g1, hx, hz]
        have HC0 := Lib.hid (fun w => hexlIdx s[2 * k] w)
        have HC1 := Lib.hid (fun w => hexlIdx s[2 * k + 1] w)
        rw [hx] at HC0 hl0
        rw [hz] at HC1 hl1
        have HSET := Lib.hid (way_set s.data.toList L0 n k HL.out hlt)
        have HSUC := Lib.hid (hok_succ s.data.toList k)
        clear g0 g1 hx hz
        have HROW := hrow; have HGR := hgr; clear hrow hgr
        by_cases hbad : x = 16 ∨ z = 16
        · have HF : Hid ((decide (s.size = 2 * n) && hok s.data.toList n) = false) := by
            show _ = _
            rw [hok_bad (k := k) (by rw [HO1.out]; rcases hbad with h | h <;> simp [h]) hlt, Bool.and_false]
          have HWL := Lib.hid (way_length s.data.toList L0 n k HL.out hk)
          have main : ∀ (hi lo : Int), (if x = 16 then (-1 : Int) else (x : Int)) = hi → (if z = 16 then (-1 : Int) else (z : Int)) = lo → hi < 0 ∨ (¬ hi < 0 ∧ lo < 0) := by
            intro hi lo h1 h2
            rcases hbad with h | h
            · left; rw [if_pos h] at h1; omega
            · by_cases hh : x = 16
              · left; rw [if_pos hh] at h1; omega
              · right; rw [if_neg hh] at h1; rw [if_pos h] at h2; exact ⟨by omega, by omega⟩
          obtain ⟨hi, hhi⟩ : ∃ v, (if x = 16 then (-1 : Int) else (x : Int)) = v := ⟨_, rfl⟩
          obtain ⟨lo, hlo⟩ : ∃ v, (if z = 16 then (-1 : Int) else (z : Int)) = v := ⟨_, rfl⟩
          have hm := main hi lo hhi hlo
          rw [hhi] at HC0
          rw [hlo] at HC1
          clear main hhi hlo hbad HO1 HBY HSET HSUC
          rcases hm with hn0 | ⟨hn0, hn1⟩
          · have e1 : decide (hi < 0) = true := by simp; omega
            go_wp2_with fail
            refine (HC0.out _).mono ?_
            rintro e w5 ⟨rfl, rfl⟩
            go_wp2_with fail
            refine (HC1.out _).mono ?_
            rintro e w5 ⟨rfl, rfl⟩
            go_wp2_with fail
            go_ret
            exact ⟨_, by rw [HF.out]; rfl, HWL.out, HROW.out, HGR.out, fun h => by rw [HF.out] at h; cases h⟩
          · have e1 : decide (hi < 0) = false := by simp; omega
            have e2 : decide (lo < 0) = true := by simp; omega
            go_wp2_with fail
            refine (HC0.out _).mono ?_
            rintro e w5 ⟨rfl, rfl⟩
            go_wp2_with fail
            refine (HC1.out _).mono ?_
            rintro e w5 ⟨rfl, rfl⟩
            go_wp2_with fail
            go_ret
            exact ⟨_, by rw [HF.out]; rfl, HWL.out, HROW.out, HGR.out, fun h => by rw [HF.out] at h; cases h⟩
        · have hx16 : x < 16 := by omega
          have hz16 : z < 16 := by omega
          rw [if_neg (by omega)] at HC0 HC1
          have HOK : Hid (hok s.data.toList (k + 1) = true) := by show _ = _; rw [HSUC.out, hok0.out, HO1.out, decide_eq_true hx16, decide_eq_true hz16]; rfl
          have hor := or_hexl x z hx16 hz16
          obtain ⟨m, hm⟩ : ∃ m, 16 * x + z = m := ⟨_, rfl⟩
          rw [hm] at HBY hor
          have hm256 : m < 256 := by omega
          have hw1 : ((m : Nat) : Int) % 256 = (m : Int) := by omega
          have e1 : decide ((x : Int) < 0) = false := by simp
          have e2 : decide ((z : Int) < 0) = false := by simp
          clear HO1 HSUC hbad hm
          go_wp2_with fail
          refine (HC0.out _).mono ?_
          rintro e w5 ⟨rfl, rfl⟩
          go_wp2_with fail
          refine (HC1.out _).mono ?_
          rintro e w5 ⟨rfl, rfl⟩
          go_wp2_with fail
          go_roundw
          case rel =>
            refine ⟨k + 1, by omega, by go_num, HOK, ?_, grown_set HGR.out _ _⟩
            have := HROW.out.put k (hby s.data.toList k)
            rw [HSET.out, HBY.out] at this
            exact this
          case measure => simp [intOf]; omega
      · obtain rfl : k = n := by omega
        have hd : decide ((k : Int) < (k : Int)) = false := by simp
        have hall : hbs s.data.toList k ++ L0.drop k = hbs s.data.toList k := by rw [List.drop_eq_nil_of_le (by rw [HL.out]; exact Nat.le_refl _), List.append_nil]
        have HROW := hrow.out; rw [hall] at HROW
        have HT : Hid ((decide (s.size = 2 * k) && hok s.data.toList k) = true) := by show _ = _; rw [hok0.out, decide_eq_true hsz]; rfl
        have HRR := Lib.hid HROW; clear HROW hall hrow hsz
        go_wp2_with fail
        go_ret
        exact ⟨_, by rw [HT.out]; rfl, hbs_length _ _, HRR.out, hgr.out, fun _ => rfl⟩
  · have ht : ((s.size : Int) != 2 * (n : Int)) = true := by rw [bne_iff_ne]; omega
    have hz : (decide (s.size = 2 * n) && hok s.data.toList n) = false := by rw [decide_eq_false hsz]; rfl
    rw [hz]
    clear hz hsz
    go_enter Tryd.func73, Tryd.ntmps73
    go_wp2
    go_ret
    exact ⟨L0, rfl, HL.out, HR.out, World.grownBy.refl _ _, fun h => by cases h⟩
end Go.Proofs.YtbfgkbcpkldofaaDoor

namespace Go.Proofs.YtbfgkbcpkldofaaDoor
open Go.RowKit

/-- whether a text is n bytes' digits; the bytes, zeros if it is not -/
def pok (l : List UInt8) (n : Nat) : Bool := decide (l.length = 2 * n) && hok l n
def pby (l : List UInt8) (n : Nat) : List Int := if pok l n = true then hbs l n else List.replicate n 0
theorem results_row_tmp {P : Program} {fn : Func} {p u : Tmp} {ty : TypeId} (h : fn.results = #[.cell p ty, .tmp u]) (tmps : Array Value) (w : World) (g : Nat) (t : TypeId) (cs : Array Value) (fr : Nat × Nat) (d : TypeDesc)
    (hp : tmps.getD p undef = .pointer (some ⟨g, 0, none⟩)) (hg : w.heap[g]? = some (.cells cs t fr))
    (hu : P.underlying ty = some d) (hd : (match d with | .struct _ | .array _ _ => true | _ => false) = true) (hi : (P.info? ty).map (·.size) = some cs.size) :
    (results fn tmps).run P w = .ok (.tuple #[.agg cs, tmps.getD u undef]) w := by
  rw [results_cell_tmp h, hp]
  simp [asAddr, run_loadVar_row w g t ty cs fr d hg hu hd hi]

/-- a row of zeros, its value behind a name -/
def zrow (n : Nat) : Array Value := ((List.replicate n (0 : Int)).map (Value.int .u8)).toArray
theorem bzH (w : World) : (Instr.build 23 #[]).run Tryd.prog w = .ok (.agg (zrow 16)) w := by kernel_rfl

theorem bzD (w : World) : (Instr.build 25 #[]).run Tryd.prog w = .ok (.agg (zrow 32)) w := by kernel_rfl
theorem row_info16 (L : List Int) (h : L.length = 16) : (Tryd.prog.info? 23).map (·.size) = some (L.map (Value.int .u8)).toArray.size := by rw [List.size_toArray, List.length_map, h]; exact Tryd.info30h
theorem row_info32 (L : List Int) (h : L.length = 32) : (Tryd.prog.info? 25).map (·.size) = some (L.map (Value.int .u8)).toArray.size := by rw [List.size_toArray, List.length_map, h]; exact Tryd.info25d
theorem row_sizes (A L : List Int) (h : A.length = L.length) : (A.map (Value.int .u8)).toArray.size = (L.map (Value.int .u8)).toArray.size := by simp [h]
set_option maxRecDepth 100000 in
set_option maxHeartbeats 1000000 in
theorem ParseHalf_any (s : ByteArray) (w : World) :
    Calls Tryd.prog 39 #[.string s] w fun e w' => e = .returned (.tuple #[.agg ((pby s.data.toList 16).map (Value.int .u8)).toArray, .bool (pok s.data.toList 16)]) ∧ Below w.heap.size w w' := by
  have HR := Lib.hid (row_new w 23 .u8 (List.replicate 16 0))
  have HB := Lib.hid (below_alloc w (.cells ((List.replicate 16 0).map (Value.int .u8)).toArray 23))
  have HSZ := Lib.hid (alloc_size w (.cells ((List.replicate 16 0).map (Value.int .u8)).toArray 23))
  have hbz := bzH
  go_enter Tryd.func39, Tryd.ntmps39
  go_wp2_with fail
  generalize hw0 : World.alloc w _ = w0
  have hr0 : RowIn w0 w.heap.size 23 .u8 (List.replicate 16 0) := by rw [← hw0]; exact HR.out
  have hb0 : Below w.heap.size w w0 := by rw [← hw0]; exact HB.out
  have hs0 : w0.heap.size = w.heap.size + 1 := by rw [← hw0]; exact HSZ.out
  clear hw0 HR HB HSZ
  have hr1 : RowIn (w0.alloc (.cells (Array.replicate 16 (Value.int .u8 0)) 23)) w0.heap.size 23 .u8 (List.replicate 16 0) := row_new w0 23 .u8 (List.replicate 16 0)
  have hb1 := below_alloc w0 (.cells (Array.replicate 16 (Value.int .u8 0)) 23)
  generalize hw1 : World.alloc w0 _ = w1
  have hr1' : RowIn w1 (w.heap.size + 1) 23 .u8 (List.replicate 16 0) := by rw [← hw1, ← hs0]; exact hr1
  have hb1' : Below w0.heap.size w0 w1 := by rw [← hw1]; exact hb1
  clear hw1 hr1 hb1
  have hr01 := hr0.below hb1' (by omega)
  have hbe1 := hb0.trans (hb1'.mono (by omega))
  refine (unhex_any (w.heap.size + 1) 23 (List.replicate 16 0) 16 s w1 hr1' (by simp) (by omega)).mono ?_
  rintro e w2 ⟨L, rfl, hL, hr2, hgr, hfin⟩
  have HR2 := Lib.hid hr2
  have HR0 := Lib.hid (hr01.grown hgr (by omega))
  have HBE : Hid (Below w.heap.size w w2) := hbe1.trans ((below_of_grown hgr (by have := hr1'.lt; omega)).mono (by omega))
  have HP : Hid (pok s.data.toList 16 = (decide (s.size = 2 * 16) && hok s.data.toList 16)) := by show _ = _; unfold pok; rw [Lib.size_eq]
  have HPB : Hid (pby s.data.toList 16 = if pok s.data.toList 16 = true then hbs s.data.toList 16 else List.replicate 16 0) := rfl
  clear hr2 hgr hr01 hbe1 hr0 hb0 hs0 hr1' hb1'
  generalize (decide (s.size = 2 * 16) && hok s.data.toList 16) = bv at *
  have HLL := Lib.hid hL; clear hL
  cases bv
  · have HPB2 : Hid (pby s.data.toList 16 = List.replicate 16 0) := by show _ = _; rw [HPB.out, if_neg (by rw [HP.out]; simp)]
    clear hfin
    have HI : Hid ((Tryd.prog.info? 23).map (·.size) = some (zrow 16).size) := row_info16 (List.replicate 16 0) (by simp)
    have HO : Hid ((zrow 16).all (·.oneCell') = true) := oneCell_map .u8 _
    have HS : Hid (((List.replicate 16 (0 : Int)).map (Value.int .u8)).toArray.size = (zrow 16).size) := rfl
    go_wp2_with (refine wpList_store_row rfl 23 _ _ rfl w.heap.size (zrow 16) rfl rfl 23 _ HR0.out HI.out HS.out HO.out ?_)
    exact bodyPost_ret (results_row_tmp (P := Tryd.prog) rfl _ _ w.heap.size 23 (zrow 16) (0, 0) _ rfl (setRow_heap _ _ _ _ _ _ HR0.out) Tryd.underlying23 rfl HI.out) rfl ⟨by rw [HPB2.out, HP.out]; rfl, below_setRow HBE.out (Nat.le_refl _) _⟩
  · have HPB2 : Hid (pby s.data.toList 16 = L) := by show _ = _; rw [HPB.out, if_pos HP.out, hfin rfl]
    clear hfin hbz
    have HI := Lib.hid (row_info16 L HLL.out); have HO := Lib.hid (oneCell_map .u8 L); have HS := Lib.hid (row_sizes (List.replicate 16 0) L (by rw [HLL.out]; simp))
    go_wp2_with (first
      | (refine wpList_load_row rfl 23 _ rfl (w.heap.size + 1) rfl 23 _ (0, 0) _ HR2.out Tryd.underlying23 rfl HI.out ?_)
      | (refine wpList_store_row rfl 23 _ _ rfl w.heap.size _ rfl rfl 23 _ HR0.out HI.out HS.out HO.out ?_))
    exact bodyPost_ret (results_row_tmp (P := Tryd.prog) rfl _ _ w.heap.size 23 _ (0, 0) _ rfl (HR0.out.setRow _) Tryd.underlying23 rfl HI.out) rfl ⟨by rw [HPB2.out, HP.out]; rfl, below_setRow HBE.out (Nat.le_refl _) _⟩
end Go.Proofs.YtbfgkbcpkldofaaDoor

namespace Go.Proofs.YtbfgkbcpkldofaaDoor
open Go.RowKit

/-- the prefix of a digest's text -/
def pfx : ByteArray := ⟨#[115, 104, 97, 50, 53, 54, 58]⟩
theorem ext_data (s : ByteArray) (i j : Nat) : (s.extract i j).data.toList = (s.data.toList.take j).drop i := by
  rw [ByteArray.data_extract, Array.toList_extract, List.extract_eq_take_drop, List.drop_take]
theorem take_eq (s : ByteArray) : ((s.extract 0 7).toList == pfx.toList) = decide (s.data.toList.take 7 = pfx.data.toList) := by
  rw [Lib.toList_data, Lib.toList_data, ext_data, List.drop_zero, Bool.eq_iff_iff, beq_iff_eq, decide_eq_true_iff]
theorem ret_boolH {a b : Bool} (h : a = b) : Ending.returned (.bool a) = .returned (.bool b) := by rw [h]
end Go.Proofs.YtbfgkbcpkldofaaDoor

namespace Go.Proofs.YtbfgkbcpkldofaaDoor
open Go.RowKit

/-- whether a text is a digest's; its bytes, zeros if it is not -/
def ppok (l : List UInt8) : Bool := decide (l.take 7 = pfx.data.toList) && pok (l.drop 7) 32
def ppby (l : List UInt8) : List Int := if ppok l = true then hbs (l.drop 7) 32 else List.replicate 32 0
end Go.Proofs.YtbfgkbcpkldofaaDoor

namespace Go.Proofs.YtbfgkbcpkldofaaDoor
open Go.RowKit

theorem ret_intH {k : IntKind} {a b : Int} (h : a = b) : Ending.returned (.int k a) = .returned (.int k b) := by rw [h]
set_option maxHeartbeats 400000 in
theorem refValue_any (c : UInt8) (w : World) :
    Calls Tryd.prog 99 #[.int .u8 (c.toNat : Int)] w fun e w' => e = .returned (.int .i64 (hexv c : Int)) ∧ w = w' := by
  obtain ⟨n, hn⟩ : ∃ n, c.toNat = n := ⟨_, rfl⟩
  have hv : hexv c = if 48 ≤ n ∧ n ≤ 57 then n - 48 else if 97 ≤ n ∧ n ≤ 102 then n - 87 else 16 := by unfold hexv; rw [hn]
  have hlt : n < 256 := by rw [← hn]; exact UInt8.toNat_lt _
  rw [hn]
  have HV := Lib.hid hv; clear hv hn
  generalize hexv c = v at *
  by_cases h1 : 48 ≤ n
  · by_cases h2 : n ≤ 57
    · have e1 : decide ((n : Int) ≥ 48) = true := by simp; omega
      have e2 : decide ((n : Int) ≤ 57) = true := by simp; omega
      go_enter Tryd.func99, Tryd.ntmps99
      go_wp2
      go_ret
      exact ⟨ret_intH (by rw [HV.out, if_pos ⟨h1, h2⟩]; omega), rfl⟩
    · have e1 : decide ((n : Int) ≥ 48) = true := by simp; omega
      have e2 : decide ((n : Int) ≤ 57) = false := by simp; omega
      by_cases h3 : 97 ≤ n
      · have e3 : decide ((n : Int) ≥ 97) = true := by simp; omega
        by_cases h4 : n ≤ 102
        · have e4 : decide ((n : Int) ≤ 102) = true := by simp; omega
          go_enter Tryd.func99, Tryd.ntmps99
          go_wp2
          go_ret
          exact ⟨ret_intH (by rw [HV.out, if_neg (by omega), if_pos ⟨h3, h4⟩]; omega), rfl⟩
        · have e4 : decide ((n : Int) ≤ 102) = false := by simp; omega
          go_enter Tryd.func99, Tryd.ntmps99
          go_wp2
          go_ret
          exact ⟨ret_intH (by rw [HV.out, if_neg (by omega), if_neg (by omega)]; rfl), rfl⟩
      · have e3 : decide ((n : Int) ≥ 97) = false := by simp; omega
        go_enter Tryd.func99, Tryd.ntmps99
        go_wp2
        go_ret
        exact ⟨ret_intH (by rw [HV.out, if_neg (by omega), if_neg (by omega)]; rfl), rfl⟩
  · have e1 : decide ((n : Int) ≥ 48) = false := by simp; omega
    have e3 : decide ((n : Int) ≥ 97) = false := by simp; omega
    go_enter Tryd.func99, Tryd.ntmps99
    go_wp2
    go_ret
    exact ⟨ret_intH (by rw [HV.out, if_neg (by omega), if_neg (by omega)]; rfl), rfl⟩
end Go.Proofs.YtbfgkbcpkldofaaDoor

namespace Go.Proofs.YtbfgkbcpkldofaaDoor
open Go.RowKit

def UnhRes (w : World) (l : List UInt8) (n : Nat) (e : Ending) (w' : World) : Prop :=
  ∃ sp cap, e = .returned (.tuple #[.slice sp (if pok l n = true then n else 0) cap, .bool (pok l n)]) ∧ Src w' w'.heap.size sp (if pok l n = true then n else 0) cap (if pok l n = true then hbs l n else []) ∧ Below w.heap.size w w' ∧ ∀ a, sp = some a → w.heap.size ≤ a.block
theorem hbs_byt0 {l : List UInt8} {n : Nat} (h : ∀ i, i < n → hexv (l.getD (2 * i) 0) < 16 ∧ hexv (l.getD (2 * i + 1) 0) < 16) : Byt (hbs l n) := fun x hx => by
  unfold hbs at hx
  obtain ⟨i, hi, rfl⟩ := List.mem_map.1 hx
  have := h i (by simpa using hi)
  unfold hby; omega
theorem hok_at0 {l : List UInt8} {n : Nat} (h : hok l n = true) (i : Nat) (hi : i < n) : hexv (l.getD (2 * i) 0) < 16 ∧ hexv (l.getD (2 * i + 1) 0) < 16 := by
  unfold hok at h
  have := (List.all_eq_true.1 h) i (by simpa using hi)
  unfold hok1 at this
  simpa using this
theorem src_nil (w : World) : Src w w.heap.size none 0 0 [] := ⟨rfl, (fun x hx => by cases hx), fun h => absurd h (by omega)⟩
set_option maxRecDepth 100000 in
set_option maxHeartbeats 1000000 in
theorem refUnhex_any (s : ByteArray) (n : Nat) (w : World) (hn : n ≤ 64) :
    Calls Tryd.prog 74 #[.string s, .int .i64 (n : Int)] w (UnhRes w s.data.toList n) := by
  by_cases hsz : s.size = 2 * n
  · have HPK : Hid (pok s.data.toList n = hok s.data.toList n) := by show _ = _; unfold pok; rw [← Lib.size_eq, decide_eq_true hsz]; rfl
    have ht : ((s.size : Int) != 2 * (n : Int)) = false := by rw [bne_eq_false_iff_eq]; omega
    go_enter Tryd.func74, Tryd.ntmps74
    go_wp2_with fail
    go_loopw [6, 7] (fun v i wr => ∃ (k N : Nat) (sp' : Option Addr) (cap' : Nat), k ≤ n ∧ i = .int .i64 k ∧ Hid (N = k) ∧ N ≤ 64 ∧ v = .slice sp' N cap' ∧ Hid (hok s.data.toList k = true) ∧ Hid (wr.ownsRow w.heap.size 5 1 (.slice sp' N cap') N ((hbs s.data.toList k).map (Value.int .u8))) ∧ Hid (Below w.heap.size w wr)) (fun _ i _ => n - (intOf i).toNat)
    case atStart => exact ⟨0, 0, none, 0, by omega, rfl, rfl, by omega, rfl, rfl, World.ownsRow_nil _ _ _ _, Below.refl _ _⟩
    case round =>
      obtain ⟨k, N, sp', cap', hk, rfl, hN, hNb, rfl, hok0, hown, hbe⟩ := hrel
      have hwz := hbe.out.size
      by_cases hlt : k < n
      · have hd : decide ((k : Int) < (n : Int)) = true := by simp; omega
        have p0 : 2 * k < s.size := by omega
        have p1 : 2 * k + 1 < s.size := by omega
        have p2 : (0 : Int) ≤ (k : Int) := by omega
        have p4 : (0 : Int) ≤ 2 * (k : Int) := by omega
        have p5 : 2 * (k : Int) < (s.size : Int) := by omega
        have p6 : (0 : Int) ≤ 2 * (k : Int) + 1 := by omega
        have p7 : 2 * (k : Int) + 1 < (s.size : Int) := by omega
        have p8 : (2 * (k : Int)).toNat = 2 * k := by omega
        have p9 : (2 * (k : Int) + 1).toNat = 2 * k + 1 := by omega
        have q1 : IntKind.i64.wrap (2 * (k : Int)) = 2 * (k : Int) := IntWalk.i64_in _ (by omega)
        have q2 : IntKind.i64.wrap (2 * (k : Int) + 1) = 2 * (k : Int) + 1 := IntWalk.i64_in _ (by omega)
        have g0 := getD_data s (2 * k) p0
        have g1 := getD_data s (2 * k + 1) p1
        have hl0 := hexv_le s[2 * k]
        have hl1 := hexv_le s[2 * k + 1]
        obtain ⟨x, hx⟩ : ∃ x, hexv s[2 * k] = x := ⟨_, rfl⟩
        obtain ⟨z, hz⟩ : ∃ z, hexv s[2 * k + 1] = z := ⟨_, rfl⟩
        have HO1 : Hid (hok1 s.data.toList k = (decide (x < 16) && decide (z < 16))) := by show _ = _; unfold hok1; rw [g0, g1, hx, hz]
        have HBY : Hid (hby s.data.toList k = ((16 * x + z : Nat) : Int)) := by show _ = _; unfold hby; rw [g0, g1, hx, hz]
        have HC0 := Lib.hid (fun w => refValue_any s[2 * k] w)
        have HC1 := Lib.hid (fun w => refValue_any s[2 * k + 1] w)
        rw [hx] at HC0 hl0
        rw [hz] at HC1 hl1
        have HSUC := Lib.hid (hok_succ s.data.toList k)
        have HBS := Lib.hid (hbs_succ s.data.toList k)
        have HLN : Hid (N = (hbs s.data.toList k).length) := by show _ = _; rw [hbs_length]; exact hN.out
        clear g0 g1 hx hz
        by_cases hbad : x = 16 ∨ z = 16
        · have HF : Hid (pok s.data.toList n = false) := by show _ = _; rw [HPK.out, hok_bad (k := k) (by rw [HO1.out]; rcases hbad with h | h <;> simp [h]) hlt]
          have e1 : (((x : Int) == 16) || ((z : Int) == 16)) = true := by rcases hbad with h | h <;> simp [h]
          have hcs : ((x : Int) == 16) = true ∨ (((x : Int) == 16) = false ∧ ((z : Int) == 16) = true) := by
            by_cases h : x = 16
            · left; simp [h]
            · right
              rcases hbad with h2 | h2
              · exact absurd h2 h
              · exact ⟨by simp; omega, by simp [h2]⟩
          clear hbad HO1 HBY HSUC e1
          rcases hcs with e1 | ⟨e1, e2⟩
          all_goals
            go_wp2_with fail
            go_region_held3 (fun _ => True) (trivial) (first
              | (go_at_call 99; (with_reducible refine (HC0.out _).mono ?_); rintro e w5 ⟨rfl, rfl⟩)
              | (go_at_call 99; (with_reducible refine (HC1.out _).mono ?_); rintro e w5 ⟨rfl, rfl⟩))
            all_goals
              go_wp2_with fail
              go_ret2
              refine ⟨none, 0, ?_, ?_, hbe.out.drew, fun a h => by cases h⟩
              · rw [HF.out]; rfl
              · rw [HF.out]; exact src_nil _
        · have hx16 : x < 16 := by omega
          have hz16 : z < 16 := by omega
          have e1 : ((x : Int) == 16) = false := by simp; omega
          have e2 : ((z : Int) == 16) = false := by simp; omega
          have HOK : Hid (hok s.data.toList (k + 1) = true) := by show _ = _; rw [HSUC.out, hok0.out, HO1.out, decide_eq_true hx16, decide_eq_true hz16]; rfl
          obtain ⟨m, hm⟩ : ∃ m, 16 * x + z = m := ⟨_, rfl⟩
          rw [hm] at HBY
          have hm256 : m < 256 := by omega
          have r1 : 16 * (x : Int) + (z : Int) = (m : Int) := by omega
          have r2 : ((m : Nat) : Int) % 256 = (m : Int) := by omega
          clear HO1 HSUC hbad hm
          go_wp2_with fail
          go_region_held3 (fun _ => True) (trivial) (first
            | (go_at_call 99; (with_reducible refine (HC0.out _).mono ?_); rintro e w5 ⟨rfl, rfl⟩)
            | (go_at_call 99; (with_reducible refine (HC1.out _).mono ?_); rintro e w5 ⟨rfl, rfl⟩))
          all_goals
            go_wp2_with (at_builtin; refine wpList_append_byte rfl (.tmp 37) (.tmp 43) 51 5 rfl Tryd.underlying51 Tryd.info5a w.heap.size _ (hbs s.data.toList k) N rfl HLN.out (hown.out.drew.alloc _) wr.heap.size (m : Int) rfl (by simp) (by omega) (by simp; omega) ?_; intro sp5 cap5 w5 hown5 hg5)
            have hbe5 := (hbe.out.drew.alloc hwz (.cells #[.int .u8 (m : Int)] 5)).grown hg5 (by simp; omega) (own_baseC hown.out)
            go_roundw
            case rel =>
              refine ⟨k + 1, N + 1, sp5, cap5, by omega, by go_num, by show _ = _; have := hN.out; omega, by have := hN.out; omega, rfl, HOK, ?_, hbe5⟩
              have := hown5.out
              show World.ownsRow _ _ _ _ _ _ _
              rw [HBS.out, HBY.out]; exact this
            case measure => simp [intOf]; omega
      · obtain rfl : k = n := by omega
        have hd : decide ((k : Int) < (k : Int)) = false := by simp
        have HT : Hid (pok s.data.toList k = true) := by show _ = _; rw [HPK.out, hok0.out]
        have hN2 := hN.out
        have hln : (hbs s.data.toList k).length = N := by rw [hbs_length]; exact hN2.symm
        have ho : wr.ownsRow w.heap.size 5 1 (.slice sp' N cap') (hbs s.data.toList k).length ((hbs s.data.toList k).map (Value.int .u8)) := by rw [hln]; exact hown.out
        obtain ⟨sp7, cap7, e7, hsrc, _⟩ := src_of_own ho (hbs_byt0 (fun i hi => hok_at0 hok0.out i hi))
        rw [hln] at e7 hsrc
        injection e7 with e1 e2 e3
        subst e1 e3
        rw [hN2] at hsrc
        have HSRC := Lib.hid hsrc
        have HBS : Hid (∀ a, sp' = some a → w.heap.size ≤ a.block) := fun a ha => own_baseC ho a.block (by rw [ha]; rfl)
        have HN := Lib.hid hN2
        clear hsrc ho hln hN2 hN hown hsz
        go_wp2_with fail
        go_ret2
        refine ⟨sp', cap', ?_, ?_, hbe.out, HBS.out⟩
        · rw [HT.out, if_pos rfl, ← HN.out]; rfl
        · rw [HT.out, if_pos rfl, if_pos rfl]; exact HSRC.out
  · have ht : ((s.size : Int) != 2 * (n : Int)) = true := by rw [bne_iff_ne]; omega
    have hz : pok s.data.toList n = false := by unfold pok; rw [← Lib.size_eq, decide_eq_false hsz]; rfl
    unfold UnhRes
    rw [hz]
    clear hz hsz
    go_enter Tryd.func74, Tryd.ntmps74
    go_wp2
    go_ret2
    exact ⟨none, 0, rfl, src_nil _, Below.refl _ _, fun a h => by cases h⟩
end Go.Proofs.YtbfgkbcpkldofaaDoor

namespace Go.Proofs.YtbfgkbcpkldofaaDoor
open Go.RowKit

theorem pby_length (l : List UInt8) (n : Nat) : (pby l n).length = n := by unfold pby; split <;> simp [hbs_length]
theorem ppby_length (l : List UInt8) : (ppby l).length = 32 := by unfold ppby; split <;> simp [hbs_length]
/-- the row on the way: the first k bytes of a list, the others zero -/
def wayZ (L : List Int) (n k : Nat) : List Int := L.take k ++ List.replicate (n - k) 0
theorem wayZ_zero (L : List Int) (n : Nat) : wayZ L n 0 = List.replicate n 0 := by simp [wayZ]
theorem wayZ_length {L : List Int} {n k : Nat} (hk : k ≤ n) (hl : k ≤ L.length) : (wayZ L n k).length = n := by
  unfold wayZ; rw [List.length_append, List.length_take, List.length_replicate]; omega
theorem wayZ_set {L : List Int} {n k : Nat} (hk : k < n) (hl : k < L.length) : (wayZ L n k).set k (L.getD k 0) = wayZ L n (k + 1) := by
  unfold wayZ
  rw [List.set_append_right _ _ (by rw [List.length_take]; omega), List.length_take, show min k L.length = k by omega, Nat.sub_self, show n - k = (n - (k + 1)) + 1 by omega, List.replicate_succ, List.take_succ_eq_append_getElem hl, List.append_assoc, List.getD_eq_getElem?_getD, List.getElem?_eq_getElem hl]
  rfl
theorem wayZ_full {L : List Int} {n : Nat} (hl : L.length = n) : wayZ L n n = L := by
  unfold wayZ; rw [Nat.sub_self, List.take_of_length_le (by omega)]; simp
theorem grown_setJ {a w : World} {g : Nat} (h : a.grownBy w (some g)) (i : Nat) (u : Value) : a.grownBy (w.setCell ⟨g, i, none⟩ u) (some g) :=
  ⟨h.os, h.tape, h.output, by simpa [World.setCell] using h.size, fun k hk hne => (Below.heap_setCell w ⟨g, i, none⟩ u k (by intro e; exact hne (by rw [e]))).trans (h.block k hk hne)⟩
set_option maxRecDepth 100000 in
set_option maxHeartbeats 1000000 in
theorem refParseHalf_any (s : ByteArray) (w : World) :
    Calls Tryd.prog 41 #[.string s] w fun e w' => e = .returned (.tuple #[.agg ((pby s.data.toList 16).map (Value.int .u8)).toArray, .bool (pok s.data.toList 16)]) ∧ Below w.heap.size w w' := by
  have HR := Lib.hid (row_new w 23 .u8 (List.replicate 16 0))
  have HB := Lib.hid (below_alloc w (.cells ((List.replicate 16 0).map (Value.int .u8)).toArray 23))
  have HSZ := Lib.hid (alloc_size w (.cells ((List.replicate 16 0).map (Value.int .u8)).toArray 23))
  have hbz := bzH
  go_enter Tryd.func41, Tryd.ntmps41
  go_wp2_with fail
  generalize hw0 : World.alloc w _ = w0
  have hr0 : RowIn w0 w.heap.size 23 .u8 (List.replicate 16 0) := by rw [← hw0]; exact HR.out
  have hb0 : Below w.heap.size w w0 := by rw [← hw0]; exact HB.out
  have hs0 : w0.heap.size = w.heap.size + 1 := by rw [← hw0]; exact HSZ.out
  clear hw0 HR HB HSZ
  have hr1 : RowIn (w0.alloc (.cells (Array.replicate 16 (Value.int .u8 0)) 23)) w0.heap.size 23 .u8 (List.replicate 16 0) := row_new w0 23 .u8 (List.replicate 16 0)
  have hb1 := below_alloc w0 (.cells (Array.replicate 16 (Value.int .u8 0)) 23)
  have hz1 : (w0.alloc (.cells (Array.replicate 16 (Value.int .u8 0)) 23)).heap.size = w0.heap.size + 1 := by simp
  generalize hw1 : World.alloc w0 _ = w1
  have hr1' : RowIn w1 (w.heap.size + 1) 23 .u8 (List.replicate 16 0) := by rw [← hw1, ← hs0]; exact hr1
  have hb1' : Below w0.heap.size w0 w1 := by rw [← hw1]; exact hb1
  have hz1' : w1.heap.size = w.heap.size + 1 + 1 := by rw [← hw1, ← hs0]; exact hz1
  clear hw1 hr1 hb1 hz1
  have hr01 := hr0.below hb1' (by omega)
  have hbe1 := hb0.trans (hb1'.mono (by omega))
  refine (refUnhex_any s 16 w1 (by omega)).mono ?_
  rintro e w2 ⟨sp, cap, rfl, hsrc, hb2, hab⟩
  have HR2 := Lib.hid (hr1'.below hb2 (by omega))
  have HR0 := Lib.hid (hr01.below hb2 (by omega))
  have HBE : Hid (Below w.heap.size w w2) := hbe1.trans (hb2.mono (by omega))
  have hz2 : w.heap.size + 1 + 1 ≤ w2.heap.size := by have := hb2.size; omega
  have hpl : pby s.data.toList 16 = wayZ (if pok s.data.toList 16 = true then hbs s.data.toList 16 else []) 16 (if pok s.data.toList 16 = true then 16 else 0) := by
    unfold pby
    split
    · rw [wayZ_full (hbs_length _ _)]
    · rfl
  have hN : (if pok s.data.toList 16 = true then 16 else 0) ≤ 16 := by split <;> omega
  obtain ⟨N, hNe⟩ : ∃ N, (if pok s.data.toList 16 = true then 16 else 0) = N := ⟨_, rfl⟩
  obtain ⟨L, hLe⟩ : ∃ L, (if pok s.data.toList 16 = true then hbs s.data.toList 16 else []) = L := ⟨_, rfl⟩
  rw [hNe] at hpl hN hsrc ⊢
  rw [hLe] at hpl hsrc
  obtain ⟨ok, hok⟩ : ∃ b, pok s.data.toList 16 = b := ⟨_, rfl⟩
  rw [hok]
  have HPL := Lib.hid hpl; have HOK := Lib.hid hok; have HSRC := Lib.hid hsrc; have HLL := Lib.hid hsrc.len
  have HAB : Hid (∀ a, sp = some a → w.heap.size + 1 + 1 ≤ a.block) := fun a ha => by have := hab a ha; omega
  have HR20 : Hid (RowIn w2 (w.heap.size + 1) 23 .u8 (wayZ L 16 0)) := by show RowIn _ _ _ _ _; rw [wayZ_zero]; exact HR2.out
  clear hNe hLe hok hpl hsrc hab hb2 hr01 hbe1 hr0 hb0 hs0 hr1' hb1' hz1' HR2
  go_wp2_with fail
  go_loopw [7] (fun i wr => ∃ k : Nat, k ≤ N ∧ i = .int .i64 k ∧ Hid (RowIn wr (w.heap.size + 1) 23 .u8 (wayZ L 16 k)) ∧ Hid (w2.grownBy wr (some (w.heap.size + 1)))) (fun i _ => N - (intOf i).toNat)
  case atStart => exact ⟨0, Nat.zero_le _, rfl, HR20.out, World.grownBy.refl _ _⟩
  case round =>
    clear HR20
    obtain ⟨k, hk, rfl, hrow, hgr⟩ := hrel
    have hgz := hgr.out.size
    by_cases hlt : k < N
    · have hd : decide ((k : Int) < (N : Int)) = true := by simp; omega
      obtain ⟨bb, off, rfl, hbb, hcap, hc⟩ := HSRC.out.cells (by omega)
      have hne := HAB.out _ rfl
      have c1 := (World.cell?_of_block (a := ⟨bb, off + k, none⟩) (hgr.out.block bb hbb (by intro e; have e' := Option.some.inj e; have hne' : w.heap.size + 1 + 1 ≤ bb := hne; omega))).trans (hc k hlt)
      have hwl : (wayZ L 16 k).length = 16 := wayZ_length (by omega) (by rw [HLL.out]; omega)
      have c2 := hrow.out.get k (by rw [hwl]; omega)
      have f2 := hrow.out.free k
      obtain ⟨y, hy⟩ : ∃ y, (wayZ L 16 k).getD k 0 = y := ⟨_, rfl⟩
      rw [hy] at c2
      have hst := wayZ_set (L := L) (n := 16) (k := k) (by omega) (by rw [HLL.out]; exact hlt)
      have p1 : (0 : Int) ≤ (k : Int) := by omega
      have p2 : (k : Int) < (N : Int) := by omega
      have p3 : (k : Int) < 16 := by omega
      obtain ⟨x, hx⟩ : ∃ x, L.getD k 0 = x := ⟨_, rfl⟩
      rw [hx] at c1 hst
      have HE : Hid (RowIn (wr.setCell ⟨w.heap.size + 1, k, none⟩ (.int .u8 x)) (w.heap.size + 1) 23 .u8 (wayZ L 16 (k + 1)) ∧ w2.grownBy (wr.setCell ⟨w.heap.size + 1, k, none⟩ (.int .u8 x)) (some (w.heap.size + 1))) := by
        have h1 := hrow.out.put k x
        rw [hst] at h1
        exact ⟨h1, grown_setJ hgr.out _ _⟩
      clear hne hc hwl hy hst hx hrow hgr hbz
      go_wp2_with fail
      go_roundw
      case rel => exact ⟨k + 1, by omega, by go_num, HE.out.1, HE.out.2⟩
      case measure => simp [intOf]; omega
    · obtain rfl : N = k := by omega
      have hd : decide ((N : Int) < (N : Int)) = false := by simp
      have hwl : (wayZ L 16 N).length = 16 := wayZ_length (by omega) (by rw [HLL.out]; exact Nat.le_refl _)
      have hpl := HPL.out
      have HR9 := Lib.hid (HR0.out.grown hgr.out (by omega))
      have HB9 : Hid (Below w.heap.size w wr) := HBE.out.trans ((below_of_grown hgr.out (by omega)).mono (by omega))
      obtain ⟨M, hM⟩ : ∃ M, wayZ L 16 N = M := ⟨_, rfl⟩
      rw [hM] at hrow hwl hpl
      have HPL2 := Lib.hid hpl
      have HI := Lib.hid (row_info16 M hwl); have HO := Lib.hid (oneCell_map .u8 M); have HS := Lib.hid (row_sizes (List.replicate 16 0) M (by rw [hwl]; simp))
      clear hM hwl hpl HPL hgr hbz
      go_wp2_with (first
        | (refine wpList_load_row rfl 23 _ rfl (w.heap.size + 1) rfl 23 _ (0, 0) _ hrow.out Tryd.underlying23 rfl HI.out ?_)
        | (refine wpList_store_row rfl 23 _ _ rfl w.heap.size _ rfl rfl 23 _ HR9.out HI.out HS.out HO.out ?_))
      exact bodyPost_ret (results_row_tmp (P := Tryd.prog) rfl _ _ w.heap.size 23 _ (0, 0) _ rfl (HR9.out.setRow _) Tryd.underlying23 rfl HI.out) rfl ⟨by rw [HPL2.out, HOK.out]; rfl, below_setRow HB9.out (Nat.le_refl _) _⟩
/-- two new digests of zeros -/
def twoW (w : World) : World := (w.alloc (.cells (Array.replicate 32 (Value.int .u8 0)) 25)).alloc (.cells (Array.replicate 32 (Value.int .u8 0)) 25)
theorem twoZ (w : World) : RowIn (twoW w) (w.heap.size + 1) 25 .u8 (List.replicate 32 0) ∧ RowIn (twoW w) w.heap.size 25 .u8 (List.replicate 32 0) ∧ Below w.heap.size w (twoW w) ∧ (twoW w).heap.size = w.heap.size + 1 + 1 := by
  have h0 : RowIn (w.alloc (.cells (Array.replicate 32 (Value.int .u8 0)) 25)) w.heap.size 25 .u8 (List.replicate 32 0) := row_new w 25 .u8 (List.replicate 32 0)
  have b0 := below_alloc w (.cells (Array.replicate 32 (Value.int .u8 0)) 25)
  have z0 := alloc_size w (.cells (Array.replicate 32 (Value.int .u8 0)) 25)
  unfold twoW
  generalize World.alloc w _ = w0 at *
  have h1 : RowIn (w0.alloc (.cells (Array.replicate 32 (Value.int .u8 0)) 25)) w0.heap.size 25 .u8 (List.replicate 32 0) := row_new w0 25 .u8 (List.replicate 32 0)
  have b1 := below_alloc w0 (.cells (Array.replicate 32 (Value.int .u8 0)) 25)
  have z1 := alloc_size w0 (.cells (Array.replicate 32 (Value.int .u8 0)) 25)
  generalize World.alloc w0 _ = w1 at *
  rw [z0] at h1 z1
  exact ⟨h1, h0.below b1 (by omega), b0.trans (b1.mono (by omega)), z1⟩
end Go.Proofs.YtbfgkbcpkldofaaDoor
