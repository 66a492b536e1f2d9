/-
  The tape of the statements: the walk of Drop (conditions: digests of 32 bytes, at most 400000 elements).
-/
import Derived.Test.YtecllfbadciaoaaGreatDoorZip
import Derived.Test.YtecllfbadciaoaaGreatDoorQ8
import Derived.Shelf.RegionOpenPlain
import Derived.Lib.ItoaMem
import Derived.Shelf.Strconv.Itoa4
import Derived.Lib.AppendIntMem
set_option maxRecDepth 100000
set_option maxHeartbeats 8000000
namespace Go.Proofs.YtecllfbadciaoaaGreatDoor
open Go.RowKit
theorem slice0 (w : World) : (Instr.buildSlice 29 0 #[]).run Tryz.prog w = .ok (.slice (some ⟨w.heap.size, 0, none⟩) 0 0) (w.alloc (.cells #[] 82)) := by kernel_rfl
theorem own_empty (w : World) (B : Nat) (hB : B ≤ w.heap.size) : OwnE (w.alloc (.cells #[] 82)) B (.slice (some ⟨w.heap.size, 0, none⟩) 0 0) [] :=
 ⟨⟨by simp [rowsE], .inr ⟨w.heap.size, 0, #[], rfl, hB, heap_alloc_new w _, Nat.le_refl _, by unfold maxLen; omega, rfl, by simp [rowsE]⟩⟩, by simp⟩
theorem EnsIn.till {w : World} {B : Nat} {sp : Option Addr} {n cap : Nat} {l : List En} (h : EnsIn w B sp n cap l) {k : Nat} (hk : k ≤ n) : EnsIn w B sp k cap (l.take k) :=
 ⟨by rw [List.length_take, h.len]; omega, fun x hx => h.ok x (List.mem_of_mem_take hx), fun hn => by
  obtain ⟨b, off, rfl, hlt, hc, hr⟩ := h.cells (by omega)
  refine ⟨b, off, rfl, hlt, by omega, fun i x hi => hr i x ?_⟩
  rw [List.getElem?_take] at hi
  split at hi
  ·exact hi
  ·cases hi⟩
theorem run_till {t e : TypeId} {sz : Nat} (ht : Tryz.prog.underlying t = some (.slice e)) (he : (Tryz.prog.info? e).map (·.size) = some sz) (w : World) (sp : Option Addr) (n cap k : Nat) (hk : k ≤ n) (hc : n ≤ cap) :
 (Instr.slice t (.slice sp n cap) none (some (.int .i64 k)) none).run Tryz.prog w = .ok (.slice sp k cap) w := by
 have h1 : (0 : Int) ≤ (k : Int) ∧ (k : Int) ≤ (cap : Int) := ⟨by omega, by omega⟩
 have h2 : k ≤ cap := by omega
 have h3 : (sp.map fun a : Addr => a.add 0) = sp := by cases sp <;> simp [Addr.add]
 simp [Instr.slice, Instr.sliceBounds, Instr.sliceBound, asIntOf, run_underlying ht, sizeOf_of he, h2, h3]
theorem yieldsIf_till {t e : TypeId} {sz : Nat} (ht : Tryz.prog.underlying t = some (.slice e)) (he : (Tryz.prog.info? e).map (·.size) = some sz) {ops : Array Oper} {S : World → Prop} {op : Oper} {a : Act} (hw : Region.wanted op (yielded ops a.tmps) = true) (x hi : Operand) (ho : op.op = .slice t x none (some hi) none)
 (sp : Option Addr) (n cap k : Nat) (hx : a.eval x = .slice sp n cap) (hhi : a.eval hi = .int .i64 k) (hk : k ≤ n) (hc : n ≤ cap) : YieldsIf Tryz.prog ops S op (.slice sp k cap) a :=
 .inl ⟨hw, fun w _ => by
  unfold execOp
  simp only [ho, Option.map_some, Option.map_none, hx, hhi]
  have := run_till ht he w sp n cap k hk hc
  simp [Instr.sliceAt, run_underlying ht, this]⟩
theorem drop_any (sp : Option Addr) (n cap : Nat) (l : List En) (i : Nat) (w : World) (hl : EnsIn w w.heap.size sp n cap l) (hi : i < n) (hn : n ≤ 400000) :
 Calls Tryz.prog 97 #[.slice sp n cap, .int .i64 i] w fun e w' => ∃ sp' cap', e = .returned (.slice sp' (n - 1) cap') ∧ OwnE w' w.heap.size (.slice sp' (n - 1) cap') (l.take i ++ l.drop (i + 1)) ∧ Below w.heap.size w w' := by
 have HL := zh hl; clear hl
 obtain ⟨b, off, rfl, hbB, hcap, -⟩ := HL.out.cells (by omega)
 have HKL : Hid (0 + i = ([] ++ l.take i).length) := by show _ = _; rw [List.nil_append, List.length_take, HL.out.len]; omega
 have HKN : Hid (0 + i + (n - (i + 1)) = n - 1) := by show _ = _; omega
 have q1 : IntKind.i64.wrap ((i : Int) + 1) = ((i + 1 : Nat) : Int) := IntWalk.i64_in _ (by omega)
 go_enter Tryz.func97, Tryz.ntmps97
 go_wp2_with fail
 refine wp_region_held_drew (S := fun w' => EnsIn w' w.heap.size (some ⟨b, off, none⟩) n cap l ∧ Below w.heap.size w w') (by kernel_rfl) ⟨HL.out.below ((Below.refl w.heap.size w).drew) (Nat.le_refl _), (Below.refl w.heap.size w).drew⟩ (fun hHeld => ?_)
 refine zv 1 rfl ?_
 refine zv 2 rfl ?_
 refine' zk 3 rfl (v := _) (yieldsIf_till Tryz.underlying29 infoE (by rfl) _ _ rfl (some ⟨b, off, none⟩) n cap i rfl rfl (by omega) hcap) ?rest3n3
 try simp only [Act.put, zuA, zuB, zuC, zuD, zuY, zuF]
 refine zv 5 rfl ?_
 refine zv 6 rfl ?_
 refine zv 7 rfl ?_
 refine' zk 8 rfl (v := _) (yieldsIf_cut Tryz.underlying29 infoE (by rfl) _ _ rfl (some ⟨b, off, none⟩) n cap (i + 1) rfl rfl (by omega)) ?rest8n7
 try simp only [Act.put, zuA, zuB, zuC, zuD, zuY, zuF]
 refine zr 0 rfl (fun K hK => ?_)
 rw [if_pos (by rfl)]
 refine wp_slice_eqS 29 0 [] rfl [] rfl _ _ (slice0 _) ?_
 generalize hw3 : World.alloc w.drew _ = w3
 have ho3 : OwnE w3 w.heap.size (.slice (some ⟨w.heap.size, 0, none⟩) 0 0) [] := by rw [← hw3]; exact own_empty w.drew _ (Nat.le_refl _)
 have hb3 : Below w.heap.size w w3 := by rw [← hw3]; exact ((Below.refl _ w).drew).alloc (Nat.le_refl _) _
 have HO3 := zh ho3
 have HB3 := zh hb3
 clear hw3 ho3 hb3
 refine hK.out _ _ ⟨HL.out.below HB3.out (Nat.le_refl _), HB3.out⟩ fun _ => ?_; clear hK K
 try simp only [Act.put, zuA, zuB, zuC, zuD, zuY, zuF]
 refine zr 4 rfl (fun K hK => ?_)
 rw [if_pos (by rfl)]
 refine wp_appendsEnS (.tmp 5) (.tmp 8) rfl w.heap.size _ [] 0 rfl rfl HO3.out (some ⟨b, off, none⟩) i cap rfl ((HL.out.below HB3.out (Nat.le_refl _)).till (by omega)) (by intro h; cases h) (by omega) (by omega) HB3.out.size ?_
 intro sp4 cap4 w4 HO4 HB4
 have HB5 := zh (HB3.out.trans HB4.out)
 refine hK.out _ _ ⟨HL.out.below HB5.out (Nat.le_refl _), HB5.out⟩ fun _ => ?_; clear hK K
 try simp only [Act.put, zuA, zuB, zuC, zuD, zuY, zuF]
 refine zr 9 rfl (fun K hK => ?_)
 rw [if_pos (by rfl)]
 refine wp_appendsEnS (.tmp 9) (.tmp 13) rfl w.heap.size _ _ (0 + i) HKL.out rfl HO4.out _ (n - (i + 1)) (cap - (i + 1)) rfl ((HL.out.below HB5.out (Nat.le_refl _)).cut (by omega)) (by rw [slP_none]; intro h; cases h) (by omega) (by omega) HB5.out.size ?_
 intro sp6 cap6 w6 HO6 HB6
 have HB7 := zh (HB5.out.trans HB6.out)
 refine hK.out _ _ ⟨HL.out.below HB7.out (Nat.le_refl _), HB7.out⟩ fun _ => ?_; clear hK K
 try simp only [Act.put, zuA, zuB, zuC, zuD, zuY, zuF]
 refine zv 10 rfl ?_
 refine zd ?_ _
 clear hHeld
 go_wp2_with fail
 go_ret
 rw [HKN.out] at HO6
 refine ⟨sp6, cap6, by show Ending.returned (.slice sp6 (i + (n - (i + 1))) cap6) = _; rw [show i + (n - (i + 1)) = n - 1 by omega], HO6.out, HB7.out⟩
end Go.Proofs.YtecllfbadciaoaaGreatDoor
namespace Go.Proofs.YtecllfbadciaoaaGreatDoor
open Go
def scpK (r : Nat) (s : ByteArray) : Bool := (seg s).all (fun x => nmB x.data.toList) && decide ((seg s).length ≤ r)
def scpB (s : ByteArray) : Bool := (s.toList == []) || scpK 4 s
theorem seg_pos (s : ByteArray) : 1 ≤ (seg s).length := by
 have := Lib.splitB_all slB (by decide) 0 _ s rfl
 show 1 ≤ (Lib.splitB slB 0 (Lib.countB s slB) s).length
 omega
theorem scpK_zero (s : ByteArray) : scpK 0 s = false := by
 unfold scpK
 have := seg_pos s
 rw [decide_eq_false (by omega), Bool.and_false]
theorem scpK_miss (r : Nat) (s : ByteArray) (h : Lib.indexB s slB = -1) : scpK (r + 1) s = nmB s.data.toList := by
 unfold scpK
 rw [seg_miss s h]
 simp
theorem scpK_hit (r : Nat) (s : ByteArray) (i : Nat) (h : Lib.indexB s slB = i) : scpK (r + 1) s = (nmB (s.extract 0 i).data.toList && scpK r (s.extract (i + 1) s.size)) := by
 unfold scpK
 rw [seg_hit s i h]
 simp [Bool.and_assoc]
def ctF (s : ByteArray) : Bool := decide (0 ≤ Lib.indexB s slB)
def ctA (s : ByteArray) : ByteArray := if ctF s then s.extract 0 (Lib.indexB s slB).toNat else s
def ctB (s : ByteArray) : ByteArray := if ctF s then s.extract ((Lib.indexB s slB).toNat + 1) s.size else ⟨#[]⟩
theorem ct_cases (s : ByteArray) : (ctF s = false ∧ ctA s = s ∧ ctB s = ⟨#[]⟩ ∧ Lib.indexB s slB = -1) ∨ ∃ i : Nat, ctF s = true ∧ ctA s = s.extract 0 i ∧ ctB s = s.extract (i + 1) s.size ∧ Lib.indexB s slB = i ∧ i + 1 ≤ s.size := by
 rcases Lib.indexB_cases s slB with h | ⟨i, h, hr⟩
 ·have hf : ctF s = false := by unfold ctF; rw [h]; rfl
  refine .inl ⟨hf, ?_, ?_, h⟩
  ·unfold ctA; rw [if_neg (by rw [hf]; simp)]
  ·unfold ctB; rw [if_neg (by rw [hf]; simp)]
 ·have hf : ctF s = true := by unfold ctF; rw [h]; exact decide_eq_true (by omega)
  refine .inr ⟨i, hf, ?_, ?_, h, hr⟩
  ·unfold ctA; rw [if_pos hf, h]; rfl
  ·unfold ctB; rw [if_pos hf, h]; rfl
theorem scpK_ct (r : Nat) (s : ByteArray) : scpK (r + 1) s = (nmB (ctA s).data.toList && (!ctF s || scpK r (ctB s))) := by
 rcases ct_cases s with ⟨h1, h2, h3, h4⟩ | ⟨i, h1, h2, h3, h4, _⟩
 ·rw [h1, h2, scpK_miss r s h4]; simp
 ·rw [h1, h2, h3, scpK_hit r s i h4]; simp
theorem ctA_size (s : ByteArray) : (ctA s).size ≤ s.size := by
 unfold ctA; split
 ·rw [ByteArray.size_extract]; omega
 ·exact Nat.le_refl _
theorem ctB_size (s : ByteArray) : (ctB s).size ≤ s.size := by
 unfold ctB; split
 ·rw [ByteArray.size_extract]; omega
 ·exact Nat.zero_le _
end Go.Proofs.YtecllfbadciaoaaGreatDoor
namespace Go.Proofs.YtecllfbadciaoaaGreatDoor
open Go.RowKit
theorem cutLite_slash (s : ByteArray) (w : World) (hs : s.size ≤ maxLen) :
 Calls Tryz.prog 111 #[.string s, .string (oneB 47)] w fun e w' => e = .returned (.tuple #[.string (ctA s), .string (ctB s), .bool (ctF s)]) ∧ Below w.heap.size w w' := by
 have HC := zh (fun w => indexLite_anyS s 47 w)
 rcases ct_cases s with ⟨h1, h2, h3, h4⟩ | ⟨i, h1, h2, h3, h4, h5⟩
 ·rw [h1, h2, h3]
  rw [show Lib.indexB s (oneB 47) = -1 from h4] at HC
  clear h1 h2 h3 h4
  go_enter Tryz.func111, Tryz.ntmps111
  go_wp2_with fail
  refine (HC.out _).mono ?_
  rintro e w' ⟨rfl, rfl⟩
  go_wp2_with fail
  go_ret3
  exact ⟨rfl, Below.refl _ _⟩
 ·rw [h1, h2, h3]
  rw [show Lib.indexB s (oneB 47) = (i : Int) from h4] at HC
  have hsz := oneB_size 47
  have c1 : (0 : Int) ≤ (i : Int) := by omega
  have c2 : (i : Int) ≤ (s.size : Int) := by omega
  have c3 : (0 : Int) ≤ (i : Int) + 1 := by omega
  have c4 : (i : Int) + 1 ≤ (s.size : Int) := by omega
  have c5 : IntKind.i64.wrap ((i : Int) + 1) = (i : Int) + 1 := IntWalk.i64_in _ (by unfold maxLen at hs; omega)
  have mixed : Tryz.prog.follows .mixedOrders = true := by kernel_rfl
  clear h1 h2 h3 h4
  go_enter Tryz.func111, Tryz.ntmps111
  go_wp2_with fail
  refine (HC.out _).mono ?_
  rintro e w' ⟨rfl, rfl⟩
  go_wp2_with fail
  go_region_o
  go_wp2_with fail
  go_ret3
  exact ⟨rfl, (Below.refl _ _).drew⟩
theorem cut_slash (s : ByteArray) (w : World) (hs : s.size ≤ maxLen) :
 Calls Tryz.prog 74 #[.string s, .string (oneB 47)] w fun e w' => e = .returned (.tuple #[.string (ctA s), .string (ctB s), .bool (ctF s)]) ∧ Below w.heap.size w w' := by
 have HC := zh (fun w => cutLite_slash s w hs)
 clear hs
 generalize ctA s = a at *
 generalize ctB s = b at *
 generalize ctF s = c at *
 go_enter Tryz.func74, Tryz.ntmps74
 go_wp2_with fail
 refine (HC.out _).mono ?_
 rintro e w' ⟨rfl, hb⟩
 have HB := zh hb
 clear hb
 go_wp2_with fail
 go_ret3
 exact ⟨rfl, HB.out⟩
theorem Scope_any (s : ByteArray) (w : World) (hs : s.size ≤ maxLen) :
 Calls Tryz.prog 37 #[.string s] w fun e w' => e = .returned (.bool (scpB s)) ∧ Below w.heap.size w w' := by
 by_cases he : (s.toList == []) = true
 ·have HX : Hid (scpB s = true) := by show _ = _; unfold scpB; rw [he]; rfl
  have hl : s.toList = [] := by simpa using he
  clear he
  go_enter Tryz.func37, Tryz.ntmps37
  go_wp2_with fail
  go_ret
  exact ⟨by rw [HX.out]; rfl, Below.refl _ _⟩
 ·have he : (s.toList == []) = false := by simpa using he
  have HX : Hid (scpB s = scpK 4 s) := by show _ = _; unfold scpB; rw [he]; rfl
  have hl2 : ¬ s.toList = [] := by simpa using he
  have HSZ := zh hs
  clear hs
  go_enter Tryz.func37, Tryz.ntmps37
  go_wp2_with fail
  clear he hl2
  go_loopw [0, 8] (fun a i wr => ∃ (k : Nat) (t : ByteArray), k ≤ 4 ∧ a = .string t ∧ i = .int .i64 k ∧ Hid (t.size ≤ maxLen) ∧ Hid (scpB s = scpK (4 - k) t) ∧ Hid (Below w.heap.size w wr)) (fun _ i _ => 4 - (intOf i).toNat)
  case atStart => exact ⟨0, s, by omega, rfl, rfl, HSZ.out, HX.out, Below.refl _ _⟩
  case round =>
   clear HX
   obtain ⟨k, t, hk, rfl, rfl, HT, HS, HB⟩ := hrel
   by_cases hlt : k < 4
   ·have hd : decide ((k : Int) < 4) = true := by simp; omega
    have HC := zh (cut_slash t wr HT.out)
    have HN := zh (fun w => Name_any (ctA t) w (Nat.le_trans (ctA_size t) HT.out))
    have HT2 : Hid ((ctB t).size ≤ maxLen) := Nat.le_trans (ctB_size t) HT.out
    have HK : Hid (scpB s = (nmB (ctA t).data.toList && (!ctF t || scpK (4 - (k + 1)) (ctB t)))) := by
     show _ = _; rw [HS.out, ← scpK_ct, show 4 - k = 4 - (k + 1) + 1 from by omega]
    clear HS HT
    generalize nmB (ctA t).data.toList = nm at *
    generalize ctA t = a1 at *
    generalize ctB t = a2 at *
    generalize ctF t = f at *
    go_wp2_with fail
    refine HC.out.mono ?_
    rintro e w1 ⟨rfl, hb⟩
    have HB1 : Hid (Below w.heap.size w w1) := HB.out.trans (hb.mono HB.out.size)
    clear hb HC HB
    go_wp2_with fail
    refine (HN.out w1).mono ?_
    rintro e w2 ⟨rfl, rfl⟩
    cases nm
    ·go_wp2_with fail
     go_ret
     exact ⟨by rw [HK.out]; rfl, HB1.out⟩
    ·cases f
     ·go_wp2_with fail
      go_ret
      exact ⟨by rw [HK.out]; rfl, HB1.out⟩
     ·go_wp2_with fail
      go_roundw
      case rel => exact ⟨k + 1, a2, by omega, rfl, by go_num, HT2.out, HK.out, HB1.out⟩
      case measure => simp [intOf]; omega
   ·obtain rfl : k = 4 := by omega
    have hd : decide (((4 : Nat) : Int) < 4) = false := by simp
    have HZ : Hid (scpB s = false) := by show _ = _; rw [HS.out]; exact scpK_zero t
    clear HS
    go_wp2_with fail
    go_ret
    exact ⟨by rw [HZ.out]; rfl, HB.out⟩
end Go.Proofs.YtecllfbadciaoaaGreatDoor
namespace Go.Proofs.YtecllfbadciaoaaGreatDoor
open Go
def isD (c : UInt8) : Bool := decide (48 ≤ c.toNat) && decide (c.toNat ≤ 57)
def valF (a : Nat) (l : List UInt8) : Nat := l.foldl (fun a c => 10 * a + (c.toNat - 48)) a
def valL (l : List UInt8) : Nat := valF 0 l
def lz (l : List UInt8) : Bool := decide (l.head? = some 48) && decide (1 < l.length)
def pnk (l : List UInt8) : Bool := !decide (l = []) && !lz l && l.all isD && decide (valL l ≤ 1099511627776)
def pnv (l : List UInt8) : Int := if pnk l = true then (valL l : Int) else 0
theorem valL_snoc (l : List UInt8) (c : UInt8) : valL (l ++ [c]) = 10 * valL l + (c.toNat - 48) := by unfold valL valF; rw [List.foldl_append]; rfl
theorem valF_ge (l : List UInt8) : ∀ a, a * 10 ^ l.length ≤ valF a l := by
 induction l with
 | nil => intro a; simp [valF]
 | cons c r ih =>
   intro a
   have h := ih (10 * a + (c.toNat - 48))
   show a * 10 ^ (r.length + 1) ≤ valF (10 * a + (c.toNat - 48)) r
   refine Nat.le_trans ?_ h
   rw [Nat.pow_succ, Nat.mul_comm (10 ^ r.length) 10, ← Nat.mul_assoc]
   exact Nat.mul_le_mul_right _ (by omega)
theorem valL_mono (l m : List UInt8) : valL l ≤ valL (l ++ m) := by
 unfold valL
 have : valF 0 (l ++ m) = valF (valF 0 l) m := by unfold valF; rw [List.foldl_append]
 rw [this]
 exact Nat.le_trans (Nat.le_mul_of_pos_right _ (Nat.pow_pos (by omega))) (valF_ge m _)
theorem valL_lt (l : List UInt8) (h : l.all isD = true) : valL l < 10 ^ l.length := by
 have key : ∀ (m : List UInt8), m.all isD = true → ∀ a, valF a m < (a + 1) * 10 ^ m.length := by
  intro m
  induction m with
  | nil => intro _ a; simp [valF]
  | cons c r ih =>
    intro hm a
    rw [List.all_cons, Bool.and_eq_true] at hm
    have hc := hm.1
    unfold isD at hc
    simp only [Bool.and_eq_true, decide_eq_true_eq] at hc
    have h := ih hm.2 (10 * a + (c.toNat - 48))
    refine Nat.lt_of_lt_of_le h ?_
    show _ ≤ (a + 1) * 10 ^ (r.length + 1)
    rw [Nat.pow_succ, Nat.mul_comm (10 ^ r.length) 10, ← Nat.mul_assoc]
    exact Nat.mul_le_mul_right _ (by omega)
 have h0 := key l h 0
 rw [Nat.zero_add, Nat.one_mul] at h0
 exact h0
theorem valL_big {l : List UInt8} (h : l.all isD = true) (h0 : l ≠ []) (hz : l.head? ≠ some 48) : 10 ^ (l.length - 1) ≤ valL l := by
 cases l with
 | nil => exact absurd rfl h0
 | cons c r =>
   have hc : c ≠ 48 := fun e => hz (by rw [e]; rfl)
   have hd : isD c = true := by rw [List.all_cons, Bool.and_eq_true] at h; exact h.1
   unfold isD at hd
   simp only [Bool.and_eq_true, decide_eq_true_eq] at hd
   have hc2 : c.toNat ≠ 48 := fun e => hc (UInt8.toNat_inj.1 e)
   have h1 := valF_ge r (10 * 0 + (c.toNat - 48))
   show 10 ^ (r.length + 1 - 1) ≤ valF (10 * 0 + (c.toNat - 48)) r
   refine Nat.le_trans ?_ h1
   rw [Nat.add_sub_cancel]
   exact Nat.le_mul_of_pos_left _ (by omega)
theorem dec_step (u : Nat) (h : ¬ u < 10) : Lib.decDigits u = Lib.decDigits (u / 10) ++ [UInt8.ofNat (48 + u % 10)] := by rw [Lib.decDigits, dif_neg h]
theorem ofNat_toNat8 (k : Nat) (h : k < 256) : (UInt8.ofNat k).toNat = k := by simp; omega
theorem isD_of (k : Nat) (h : k < 10) : isD (UInt8.ofNat (48 + k)) = true := by
 unfold isD; rw [ofNat_toNat8 _ (by omega), decide_eq_true (by omega), decide_eq_true (by omega)]; rfl
theorem dec_spec (u : Nat) : (Lib.decDigits u).all isD = true ∧ valL (Lib.decDigits u) = u ∧ Lib.decDigits u ≠ [] ∧ (u ≠ 0 → (Lib.decDigits u).head? ≠ some 48) := by
 induction u using Nat.strongRecOn with
 | _ u ih =>
   by_cases h : u < 10
   ·rw [Lib.decDigits_one h]
    refine ⟨by rw [List.all_cons, isD_of u h]; rfl, ?_, by simp, fun hu => ?_⟩
    ·show 10 * 0 + ((UInt8.ofNat (48 + u)).toNat - 48) = u
     rw [ofNat_toNat8 _ (by omega)]; omega
    ·intro e
     have e2 : UInt8.ofNat (48 + u) = 48 := by simpa using e
     have := congrArg UInt8.toNat e2
     rw [ofNat_toNat8 _ (by omega)] at this
     have e48 : (48 : UInt8).toNat = 48 := rfl
     omega
   ·obtain ⟨h1, h2, h3, h4⟩ := ih (u / 10) (by omega)
    rw [dec_step u h]
    refine ⟨by rw [List.all_append, h1, List.all_cons, isD_of _ (by omega)]; rfl, ?_, by simp, fun _ => ?_⟩
    ·rw [valL_snoc, h2, ofNat_toNat8 _ (by omega)]; omega
    ·have := h4 (by omega)
     cases hd : Lib.decDigits (u / 10) with
     | nil => exact absurd hd h3
     | cons c r => rw [hd] at this; simpa using this
theorem dec_val (n : Nat) : ∀ l : List UInt8, l.length = n → l.all isD = true → l ≠ [] → lz l = false → Lib.decDigits (valL l) = l := by
 induction n with
 | zero => intro l hl _ h0; exact absurd (List.eq_nil_of_length_eq_zero hl) h0
 | succ n ih =>
   intro l hl hd h0 hz
   obtain ⟨r, c, rfl⟩ : ∃ r c, l = r ++ [c] := ⟨l.dropLast, l.getLast h0, (List.dropLast_concat_getLast h0).symm⟩
   rw [List.all_append, Bool.and_eq_true] at hd
   have hc := hd.2
   rw [List.all_cons, List.all_nil, Bool.and_true] at hc
   unfold isD at hc
   simp only [Bool.and_eq_true, decide_eq_true_eq] at hc
   have ec : UInt8.ofNat (48 + (c.toNat - 48)) = c := by
    rw [show 48 + (c.toNat - 48) = c.toNat by omega]; simp
   by_cases hr : r = []
   ·subst hr
    have e : valL ([] ++ [c]) = c.toNat - 48 := by rw [valL_snoc]; show 10 * 0 + _ = _; omega
    rw [e, Lib.decDigits_one (by omega), ec]; rfl
   ·have hrl : r.length = n := by rw [List.length_append, List.length_singleton] at hl; omega
    have hn : 0 < r.length := by cases r with
     | nil => exact absurd rfl hr
     | cons _ _ => simp
    have hh : (r ++ [c]).head? = r.head? := by cases r with
     | nil => exact absurd rfl hr
     | cons _ _ => rfl
    have hz2 : r.head? ≠ some 48 := by
     intro e
     unfold lz at hz
     rw [hh, e, decide_eq_true rfl, decide_eq_true (by rw [List.length_append, List.length_singleton]; omega)] at hz
     cases hz
    have hzr : lz r = false := by unfold lz; rw [decide_eq_false hz2]; rfl
    have hv := ih r hrl hd.1 hr hzr
    have hb := valL_big hd.1 hr hz2
    have hp : 1 ≤ 10 ^ (r.length - 1) := Nat.pow_pos (by omega)
    rw [valL_snoc, dec_step _ (by omega), show (10 * valL r + (c.toNat - 48)) / 10 = valL r by omega, show (10 * valL r + (c.toNat - 48)) % 10 = c.toNat - 48 by omega, hv, ec]
theorem pnk_dec {l : List UInt8} (h : pnk l = true) : Lib.itoa (pnv l) = l ∧ l.all isD = true ∧ valL l ≤ 1099511627776 := by
 have h1 := h
 unfold pnk at h
 simp only [Bool.and_eq_true, Bool.not_eq_true', decide_eq_false_iff_not, decide_eq_true_eq] at h
 obtain ⟨⟨⟨h2, h3⟩, h4⟩, h5⟩ := h
 refine ⟨?_, h4, h5⟩
 unfold pnv
 rw [if_pos h1, Lib.itoa_nonneg, dec_val _ l rfl h4 h2 h3]
theorem pnk_itoa (n : Int) : pnk (Lib.itoa n) = (decide (0 ≤ n) && decide (n ≤ 1099511627776)) ∧ (0 ≤ n → n ≤ 1099511627776 → pnv (Lib.itoa n) = n) := by
 by_cases h0 : 0 ≤ n
 ·obtain ⟨u, rfl⟩ : ∃ u : Nat, n = u := ⟨n.toNat, by omega⟩
  rw [Lib.itoa_nonneg]
  obtain ⟨h1, h2, h3, h4⟩ := dec_spec u
  have hz : lz (Lib.decDigits u) = false := by
   by_cases hu : u = 0
   ·subst hu; rw [Lib.decDigits_one (by omega)]; rfl
   ·unfold lz; rw [decide_eq_false (h4 hu)]; rfl
  have hk : pnk (Lib.decDigits u) = decide ((u : Int) ≤ 1099511627776) := by
   unfold pnk
   rw [decide_eq_false h3, hz, h1, h2]
   simp only [Bool.not_false, Bool.true_and]
   rw [decide_eq_decide]; omega
  refine ⟨by rw [hk, decide_eq_true h0, Bool.true_and], fun _ hm => ?_⟩
  unfold pnv
  rw [hk, if_pos (by simpa using hm), h2]
 ·refine ⟨?_, fun h => absurd h h0⟩
  rw [decide_eq_false h0, Bool.false_and]
  have : Lib.itoa n = 45 :: Lib.decDigits n.natAbs := by unfold Lib.itoa; rw [if_pos (by omega)]
  unfold pnk
  rw [this, List.all_cons, show isD 45 = false from rfl]
  simp
end Go.Proofs.YtecllfbadciaoaaGreatDoor
namespace Go.Proofs.YtecllfbadciaoaaGreatDoor
open Go.RowKit
theorem digB_isD (c : UInt8) : digB (c.toNat : Int) = isD c := by
 unfold digB isD
 congr 1 <;> (rw [decide_eq_decide]; omega)
theorem getD_byteN (s : ByteArray) (i : Nat) (h : i < s.size) : s.data.toList[i]? = some s[i] := by
 rw [List.getElem?_eq_getElem (by simpa using h)]; rfl
theorem take_byteN (s : ByteArray) (k : Nat) (h : k < s.size) : s.data.toList.take (k + 1) = s.data.toList.take k ++ [s[k]] := by
 rw [List.take_succ_eq_append_getElem (by simpa using h)]; rfl
theorem pnk_no {l : List UInt8} (h : l = [] ∨ lz l = true ∨ l.all isD = false ∨ 1099511627776 < valL l) : pnk l = false ∧ pnv l = 0 := by
 have h1 : pnk l = false := by
  unfold pnk
  rcases h with h | h | h | h
  ·rw [decide_eq_true h]; rfl
  ·rw [h]; simp
  ·rw [h]; simp
  ·rw [decide_eq_false (p := valL l ≤ 1099511627776) (by omega)]; simp
 exact ⟨h1, by unfold pnv; rw [h1]; rfl⟩
theorem pnk_yes {l : List UInt8} (h0 : l ≠ []) (hz : lz l = false) (hd : l.all isD = true) (hm : valL l ≤ 1099511627776) : pnk l = true ∧ pnv l = (valL l : Int) := by
 have h1 : pnk l = true := by unfold pnk; rw [decide_eq_false h0, hz, hd, decide_eq_true hm]; rfl
 exact ⟨h1, by unfold pnv; rw [if_pos h1]⟩
theorem all_take_no {l : List UInt8} {k : Nat} {c : UInt8} (h : l[k]? = some c) (hc : isD c = false) : l.all isD = false := by
 rw [List.all_eq_false]
 exact ⟨c, List.mem_of_getElem? h, by rw [hc]; simp⟩
theorem valL_take_le (l : List UInt8) (k : Nat) : valL (l.take k) ≤ valL l := by
 have := valL_mono (l.take k) (l.drop k)
 rwa [List.take_append_drop] at this
theorem ParseNumber_any (s : ByteArray) (w : World) (hmax : s.size ≤ 9223372036854775807) :
 Calls Tryz.prog 103 #[.string s] w fun e w' => e = .returned (.tuple #[.int .i64 (pnv s.data.toList), .bool (pnk s.data.toList)]) ∧ w = w' := by
 by_cases he : s.size = 0
 ·have hl : s.data.toList = [] := List.eq_nil_of_length_eq_zero (by rw [← Lib.size_eq]; exact he)
  have HN := zh (pnk_no (l := s.data.toList) (.inl hl))
  have hl2 : s.toList = [] := by rw [Lib.toList_data]; exact hl
  clear hl he
  go_enter Tryz.func103, Tryz.ntmps103
  go_wp2_with fail
  go_ret2
  exact ⟨by rw [HN.out.1, HN.out.2]; rfl, rfl⟩
 have hne : s.data.toList ≠ [] := fun h => he (by rw [Lib.size_eq, h]; rfl)
 have hl : (s.toList == []) = false := by rw [Lib.toList_data, beq_eq_false_iff_ne]; exact hne
 have hl2 : ¬ s.toList = [] := by simpa using hl
 have h0 : 0 < s.size := by omega
 have p0 : (0 : Int) < (s.size : Int) := by omega
 have hh := getD_byteN s 0 h0
 have hhd : s.data.toList.head? = some s[0] := by rw [← hh, List.head?_eq_getElem?]
 have hcs : (((s[0].toNat : Int) == 48) = true ∧ (s.toList == [48]) = false ∧ lz s.data.toList = true) ∨ (((s[0].toNat : Int) == 48) = true ∧ (s.toList == [48]) = true ∧ lz s.data.toList = false) ∨ (((s[0].toNat : Int) == 48) = false ∧ lz s.data.toList = false) := by
  by_cases h : s[0] = 48
  ·have e1 : ((s[0].toNat : Int) == 48) = true := by rw [h]; rfl
   by_cases h2 : s.toList = [48]
   ·refine .inr (.inl ⟨e1, by rw [beq_iff_eq]; exact h2, ?_⟩)
    rw [Lib.toList_data] at h2; rw [h2]; rfl
   ·refine .inl ⟨e1, by rw [beq_eq_false_iff_ne]; exact h2, ?_⟩
    rw [Lib.toList_data] at h2
    unfold lz
    rw [hhd, h, decide_eq_true rfl, Bool.true_and, decide_eq_true_eq]
    rcases hd : s.data.toList with _ | ⟨a, _ | ⟨b, r⟩⟩
    ·exact absurd hd hne
    ·rw [hd] at hhd h2; simp at hhd; exact absurd (by rw [hhd, h]) h2
    ·simp
  ·refine .inr (.inr ⟨?_, ?_⟩)
   ·rw [beq_eq_false_iff_ne]; intro e; apply h; apply UInt8.toNat_inj.1; show s[0].toNat = 48; omega
   ·unfold lz; rw [hhd, decide_eq_false (fun e => h (by simpa using e))]; rfl
 have HH := zh hne
 clear hh hhd hne
 rcases hcs with ⟨t1, t2, hz⟩ | hcs
 ·have HN := zh (pnk_no (l := s.data.toList) (.inr (.inl hz)))
  have t3 : (!(s.toList == [48])) = true := by rw [t2]; rfl
  clear hz
  go_enter Tryz.func103, Tryz.ntmps103
  go_wp2_with fail
  go_ret2
  exact ⟨by rw [HN.out.1, HN.out.2]; rfl, rfl⟩
 ·have hz : lz s.data.toList = false := by rcases hcs with ⟨_, _, h⟩ | ⟨_, h⟩ <;> exact h
  have HZ := zh hz
  have hcs : (((s[0].toNat : Int) == 48) = true ∧ (!(s.toList == [48])) = false) ∨ ((s[0].toNat : Int) == 48) = false := by
   rcases hcs with ⟨h1, h2, _⟩ | ⟨h1, _⟩
   ·exact .inl ⟨h1, by rw [h2]; rfl⟩
   ·exact .inr h1
  have HPN : Hid (∀ h : s.data.toList.all isD = false ∨ 1099511627776 < valL s.data.toList, pnk s.data.toList = false ∧ pnv s.data.toList = 0) := fun h => pnk_no (.inr (.inr h))
  have HPY : Hid (∀ (h1 : s.data.toList.all isD = true) (h2 : valL s.data.toList ≤ 1099511627776), pnk s.data.toList = true ∧ pnv s.data.toList = (valL s.data.toList : Int)) := fun h1 h2 => pnk_yes HH.out HZ.out h1 h2
  have HLS := zh (Lib.size_eq s)
  clear hz
  rcases hcs with ⟨t1, t3⟩ | t1
  all_goals
   go_enter Tryz.func103, Tryz.ntmps103
   go_wp2_with fail
   go_loopw [4, 19] (fun v i wr => ∃ (k V : Nat), k ≤ s.size ∧ i = .int .i64 k ∧ v = .int .i64 V ∧ V ≤ 1099511627776 ∧ Hid (V = valL (s.data.toList.take k)) ∧ Hid ((s.data.toList.take k).all isD = true) ∧ Hid (wr = w)) (fun _ i _ => s.size - (intOf i).toNat)
   case atStart => exact ⟨0, 0, Nat.zero_le _, rfl, rfl, by omega, rfl, rfl, rfl⟩
   case round =>
    obtain ⟨k, V, hk, rfl, rfl, hV, HV, HA, hw⟩ := hrel
    obtain rfl := hw.out
    clear hw
    by_cases hlt : k < s.size
    ·have hd : decide ((k : Int) < (s.size : Int)) = true := by simp; omega
     have p1 : (0 : Int) ≤ (k : Int) := by omega
     have p2 : (k : Int) < (s.size : Int) := by omega
     have HG := zh (getD_byteN s k hlt)
     have HC := zh (fun w => digit_any (s[k].toNat : Int) w)
     rw [digB_isD] at HC
     cases hc : isD s[k]
     ·have HN := zh (HPN.out (.inl (all_take_no HG.out hc)))
      rw [hc] at HC
      clear hc HPN HPY
      go_wp2_with fail
      refine (HC.out _).mono ?_
      rintro e w' ⟨rfl, rfl⟩
      go_wp2_with fail
      go_ret2
      exact ⟨by rw [HN.out.1, HN.out.2]; rfl, rfl⟩
     ·rw [hc] at HC
      have hc2 := hc
      unfold isD at hc2
      simp only [Bool.and_eq_true, decide_eq_true_eq] at hc2
      have hva : valL (s.data.toList.take (k + 1)) = 10 * V + (s[k].toNat - 48) := by rw [take_byteN s k hlt, valL_snoc, ← HV.out]
      have hal : (s.data.toList.take (k + 1)).all isD = true := by rw [take_byteN s k hlt, List.all_append, HA.out, List.all_cons, hc]; rfl
      have hle := valL_take_le s.data.toList (k + 1)
      obtain ⟨m, hm⟩ : ∃ m, 10 * V + (s[k].toNat - 48) = m := ⟨_, rfl⟩
      have q1 : IntKind.i64.wrap (10 * (V : Int)) = 10 * (V : Int) := IntWalk.i64_in _ (by omega)
      have q2 : ((s[k].toNat : Int) - 48) % 256 = (s[k].toNat : Int) - 48 := by omega
      have q3 : 10 * (V : Int) + ((s[k].toNat : Int) - 48) = (m : Int) := by omega
      have q4 : IntKind.i64.wrap (m : Int) = (m : Int) := IntWalk.i64_in _ (by omega)
      rw [hm] at hva
      by_cases hb : 1099511627776 < m
      ·have hbd : decide ((m : Int) > 1099511627776) = true := by simp; omega
       have HN := zh (HPN.out (.inr (by omega)))
       clear hc hc2 hva hal hle hm HPN HPY
       go_wp2_with fail
       refine (HC.out _).mono ?_
       rintro e w' ⟨rfl, rfl⟩
       go_wp2_with fail
       go_ret2
       exact ⟨by rw [HN.out.1, HN.out.2]; rfl, rfl⟩
      ·have hbd : decide ((m : Int) > 1099511627776) = false := by simp; omega
       have HVA := zh hva.symm; have HAL := zh hal
       clear hc hc2 hva hal hle hm HPN HPY
       go_wp2_with fail
       refine (HC.out _).mono ?_
       rintro e w' ⟨rfl, rfl⟩
       go_wp2_with fail
       go_roundw
       case rel => exact ⟨k + 1, m, by omega, by go_num, rfl, by omega, HVA, HAL, by first | rfl | exact trivial⟩
       case measure => simp [intOf]; omega
    ·obtain rfl : k = s.size := by omega
     have hd : decide ((s.size : Int) < (s.size : Int)) = false := by simp
     have htk : s.data.toList.take s.size = s.data.toList := List.take_of_length_le (by rw [← HLS.out]; exact Nat.le_refl _)
     have ha := HA.out; have hv := HV.out
     rw [htk] at ha hv
     have HN := zh (HPY.out ha (by rw [← hv]; exact hV))
     have HV2 := zh hv
     clear htk ha hv HPN HPY
     go_wp2_with fail
     go_ret2
     exact ⟨by rw [HN.out.1, HN.out.2, ← HV2.out]; rfl, rfl⟩
end Go.Proofs.YtecllfbadciaoaaGreatDoor
namespace Go.Proofs
open Go.Shelf
def Tryz.lays173_ren : Go.Shelf.Ren := ⟨fun | 173 => 75 | 246 => 112 | 283 => 132 | 284 => 133 | 285 => 134 | 286 => 135 | 129 => 149 | 317 => 148 | 318 => 150 | 319 => 151 | 320 => 152 | 337 => 157 | 338 => 158 | n => n, fun | 2 => 2 | 3 => 3 | 9 => 9 | 4 => 4 | 171 => 157 | 0 => 0 | 53 => 96 | 37 => 22 | 5 => 5 | 173 => 160 | 212 => 173 | 51 => 174 | 20 => 20 | 213 => 175 | 46 => 132 | 232 => 79 | 233 => 186 | n => n, fun | 17 => 1 | 18 => 4 | 19 => 5 | n => n⟩
theorem Tryz.lays173 : Go.Proofs.LaysM.n173 Tryz.prog Tryz.lays173_ren := {
 mixed := by kernel_rfl
 f129 := Tryz.func149.trans (congrArg some (by kernel_rfl))
 f173 := Tryz.func75.trans (congrArg some (by kernel_rfl))
 f246 := Tryz.func112.trans (congrArg some (by kernel_rfl))
 f283 := Tryz.func132.trans (congrArg some (by kernel_rfl))
 f284 := Tryz.func133.trans (congrArg some (by kernel_rfl))
 f285 := Tryz.func134.trans (congrArg some (by kernel_rfl))
 f286 := Tryz.func135.trans (congrArg some (by kernel_rfl))
 f317 := Tryz.func148.trans (congrArg some (by kernel_rfl))
 f318 := Tryz.func150.trans (congrArg some (by kernel_rfl))
 f319 := Tryz.func151.trans (congrArg some (by kernel_rfl))
 f320 := Tryz.func152.trans (congrArg some (by kernel_rfl))
 f337 := Tryz.func157.trans (congrArg some (by kernel_rfl))
 f338 := Tryz.func158.trans (congrArg some (by kernel_rfl))
 t0 := Tryz.underlying0
 a0 := Tryz.isAgg0
 z0 := Tryz.sizeOf0
 v0 := Tryz.zeroValue0
 t2 := Tryz.underlying2
 a2 := Tryz.isAgg2
 z2 := Tryz.sizeOf2
 v2 := Tryz.zeroValue2
 t3 := Tryz.underlying3
 a3 := Tryz.isAgg3
 z3 := Tryz.sizeOf3
 v3 := Tryz.zeroValue3
 t4 := Tryz.underlying4
 a4 := Tryz.isAgg4
 z4 := Tryz.sizeOf4
 v4 := Tryz.zeroValue4
 t5 := Tryz.underlying5
 a5 := Tryz.isAgg5
 z5 := Tryz.sizeOf5
 v5 := Tryz.zeroValue5
 t9 := Tryz.underlying9
 a9 := Tryz.isAgg9
 z9 := Tryz.sizeOf9
 v9 := Tryz.zeroValue9
 t20 := Tryz.underlying20
 a20 := Tryz.isAgg20
 z20 := Tryz.sizeOf20
 v20 := Tryz.zeroValue20
 t37 := Tryz.underlying22
 a37 := Tryz.isAgg22
 z37 := Tryz.sizeOf22
 v37 := Tryz.zeroValue22
 t46 := Tryz.underlying132
 a46 := Tryz.isAgg132
 z46 := Tryz.sizeOf132
 v46 := Tryz.zeroValue132
 t51 := Tryz.underlying174
 a51 := Tryz.isAgg174
 z51 := Tryz.sizeOf174
 v51 := Tryz.zeroValue174
 t53 := Tryz.underlying96
 a53 := Tryz.isAgg96
 z53 := Tryz.sizeOf96
 v53 := Tryz.zeroValue96
 t171 := Tryz.underlying157
 a171 := Tryz.isAgg157
 z171 := Tryz.sizeOf157
 v171 := Tryz.zeroValue157
 t173 := Tryz.underlying160
 a173 := Tryz.isAgg160
 z173 := Tryz.sizeOf160
 v173 := Tryz.zeroValue160
 t212 := Tryz.underlying173
 a212 := Tryz.isAgg173
 z212 := Tryz.sizeOf173
 v212 := Tryz.zeroValue173
 t213 := Tryz.underlying175
 a213 := Tryz.isAgg175
 z213 := Tryz.sizeOf175
 t232 := Tryz.underlying79
 a232 := Tryz.isAgg79
 z232 := Tryz.sizeOf79
 v232 := Tryz.zeroValue79
 t233 := Tryz.underlying186
 a233 := Tryz.isAgg186
 z233 := Tryz.sizeOf186
 v233 := Tryz.zeroValue186
 g17 := by kernel_rfl
 g18 := by kernel_rfl
 g19 := by kernel_rfl
 i0 := by kernel_rfl
 i2 := by kernel_rfl
 i3 := by kernel_rfl
 i4 := by kernel_rfl
 i5 := by kernel_rfl
 i9 := by kernel_rfl
 i20 := by kernel_rfl
 i37 := by kernel_rfl
 i46 := by kernel_rfl
 i51 := by kernel_rfl
 i53 := by kernel_rfl
 i171 := by kernel_rfl
 i173 := by kernel_rfl
 i212 := by kernel_rfl
 i232 := by kernel_rfl
 i233 := by kernel_rfl
 m17 := by kernel_rfl
 m18 := by kernel_rfl
 m19 := by kernel_rfl }
end Go.Proofs
namespace Go.Proofs.YtecllfbadciaoaaGreatDoor
open Go.RowKit
theorem FormatInt_any (n : Int) (h0 : -9223372036854775808 ≤ n) (h1 : n ≤ 9223372036854775807) (w : World) (ht : Lib.TabIs Tryz.prog w "internal/strconv.uint64pow10" .u64 Lib.pow10Tab) :
 Calls Tryz.prog 75 #[.int .i64 n, .int .i64 10] w fun e w' => e = .returned (.string ⟨(Lib.itoa n).toArray⟩) ∧ Below w.heap.size w w' :=
 (Any.strconv_FormatInt_10 Tryz.lays173 n h0 h1 w ht).mono fun e w' ⟨he, k, os, hw⟩ => ⟨he, by rw [hw]; exact Lib.below_grow _ _ (Nat.le_refl _) _ _⟩
theorem Number_any (n : Int) (h0 : -9223372036854775808 ≤ n) (h1 : n ≤ 9223372036854775807) (w : World) (ht : Lib.TabIs Tryz.prog w "internal/strconv.uint64pow10" .u64 Lib.pow10Tab) :
 Calls Tryz.prog 39 #[.int .i64 n] w fun e w' => e = .returned (.string ⟨(Lib.itoa n).toArray⟩) ∧ Below w.heap.size w w' := by
 have HC := zh (FormatInt_any n h0 h1 w ht)
 clear h0 h1 ht
 go_enter Tryz.func39, Tryz.ntmps39
 go_wp2_with fail
 refine HC.out.mono ?_
 rintro e w1 ⟨rfl, b1⟩
 go_wp2_with fail
 go_ret
 exact ⟨rfl, b1⟩
end Go.Proofs.YtecllfbadciaoaaGreatDoor
namespace Go.Proofs.YtecllfbadciaoaaGreatDoor
open Go
def rot (a b x : Int) : Int := bits .or .u32 (x / a) (x * b % 4294967296)
def xr (a b : Int) : Int := bits .xor .u32 a b
def an (a b : Int) : Int := bits .and .u32 a b
def ad (a b : Int) : Int := (a + b) % 4294967296
def chs (x y z : Int) : Int := xr (an x y) (an (xr IntKind.u32.max x) z)
def mjr (x y z : Int) : Int := xr (xr (an x y) (an x z)) (an y z)
def big0 (x : Int) : Int := xr (xr (rot 4 1073741824 x) (rot 8192 524288 x)) (rot 4194304 1024 x)
def big1 (x : Int) : Int := xr (xr (rot 64 67108864 x) (rot 2048 2097152 x)) (rot 33554432 128 x)
def sm0 (x : Int) : Int := xr (xr (rot 128 33554432 x) (rot 262144 16384 x)) (x / 8)
def sm1 (x : Int) : Int := xr (xr (rot 131072 32768 x) (rot 524288 8192 x)) (x / 1024)
structure St where
 a : Int
 b : Int
 c : Int
 d : Int
 e : Int
 f : Int
 g : Int
 h : Int
def St.list (s : St) : List Int := [s.a, s.b, s.c, s.d, s.e, s.f, s.g, s.h]
def tOne (k w : Int) (s : St) : Int := ad (ad (ad (ad s.h (big1 s.e)) (chs s.e s.f s.g)) k) w
def tTwo (s : St) : Int := ad (big0 s.a) (mjr s.a s.b s.c)
def rnd (k w : Int) (s : St) : St := ⟨ad (tOne k w s) (tTwo s), s.a, s.b, s.c, ad s.d (tOne k w s), s.e, s.f, s.g⟩
def kay : List Int := [1116352408, 1899447441, 3049323471, 3921009573, 961987163, 1508970993, 2453635748, 2870763221, 3624381080, 310598401, 607225278, 1426881987, 1925078388, 2162078206, 2614888103, 3248222580, 3835390401, 4022224774, 264347078, 604807628, 770255983, 1249150122, 1555081692, 1996064986, 2554220882, 2821834349, 2952996808, 3210313671, 3336571891, 3584528711, 113926993, 338241895, 666307205, 773529912, 1294757372, 1396182291, 1695183700, 1986661051, 2177026350, 2456956037, 2730485921, 2820302411, 3259730800, 3345764771, 3516065817, 3600352804, 4094571909, 275423344, 430227734, 506948616, 659060556, 883997877, 958139571, 1322822218, 1537002063, 1747873779, 1955562222, 2024104815, 2227730452, 2361852424, 2428436474, 2756734187, 3204031479, 3329325298]
def rnds (W : List Int) (s : St) : Nat → St
 | 0 => s
 | n + 1 => rnd (kay.getD n 0) (W.getD n 0) (rnds W s n)
def wd (p : List Int) (i : Nat) : Int :=
 bits .or .u32 (bits .or .u32 (bits .or .u32 (p.getD (4 * i) 0 * 16777216) (p.getD (4 * i + 1) 0 * 65536)) (p.getD (4 * i + 2) 0 * 256)) (p.getD (4 * i + 3) 0)
def msg (p : List Int) (n : Nat) : List Int := (List.range n).map (wd p)
def wnext (l : List Int) (n : Nat) : Int := ad (ad (ad (l.getD n 0) (sm0 (l.getD (n + 1) 0))) (l.getD (n + 9) 0)) (sm1 (l.getD (n + 14) 0))
def sched (m : List Int) : Nat → List Int
 | 0 => m
 | n + 1 => sched m n ++ [wnext (sched m n) n]
def words (p : List Int) : List Int := sched (msg p 16) 48
def comp (h : St) (p : List Int) : St :=
 let s := rnds (words p) h 64
 ⟨ad h.a s.a, ad h.b s.b, ad h.c s.c, ad h.d s.d, ad h.e s.e, ad h.f s.f, ad h.g s.g, ad h.h s.h⟩
def iv : St := ⟨1779033703, 3144134277, 1013904242, 2773480762, 1359893119, 2600822924, 528734635, 1541459225⟩
def blks : Nat → St → List Int → St
 | 0, s, _ => s
 | n + 1, s, p => blks n (comp s (p.take 64)) (p.drop 64)
def fillTo (n : Nat) (l : List Int) : List Int := l ++ List.replicate (n - l.length) 0
end Go.Proofs.YtecllfbadciaoaaGreatDoor
namespace Go.Proofs.YtecllfbadciaoaaGreatDoor
open Go.RowKit
theorem heap_cell {w : World} {g j : Nat} {L : List Value} {t : TypeId} {fr : Nat × Nat} {v : Value} (hg : w.heap[g]? = some (.cells L.toArray t fr)) (hv : L[j]? = some v) : w.cell? ⟨g, j, none⟩ = some v := by
 rw [cell_of_row w g j _ t fr hg]; simpa using hv
theorem getD_map {α β : Type} (l : List α) (f : α → β) (i : Nat) (d : α) (h : i < l.length) : (l.map f)[i]? = some (f (l.getD i d)) := by
 simp [List.getD_eq_getElem?_getD, List.getElem?_eq_getElem h]
def RowIn (w : World) (b : Nat) (t : TypeId) (k : IntKind) (L : List Int) : Prop := w.heap[b]? = some (.cells (L.map (Value.int k)).toArray t (0, 0))
theorem RowIn.get {w : World} {b : Nat} {t : TypeId} {k : IntKind} {L : List Int} (h : RowIn w b t k L) (i : Nat) (hi : i < L.length) : w.cell? ⟨b, i, none⟩ = some (.int k (L.getD i 0)) :=
 heap_cell h (getD_map _ _ _ _ hi)
theorem RowIn.free {w : World} {b : Nat} {t : TypeId} {k : IntKind} {L : List Int} (h : RowIn w b t k L) (i : Nat) : w.frozen? ⟨b, i, none⟩ = false := frozen_of_row _ _ _ _ _ h
theorem RowIn.put {w : World} {b : Nat} {t : TypeId} {k : IntKind} {L : List Int} (h : RowIn w b t k L) (i : Nat) (v : Int) : RowIn (w.setCell ⟨b, i, none⟩ (.int k v)) b t k (L.set i v) := by
 unfold RowIn; rw [heap_setCell_same _ _ _ _ _ _ h]; simp [List.map_set]
theorem RowIn.put_other {w : World} {b : Nat} {t : TypeId} {k : IntKind} {L : List Int} (h : RowIn w b t k L) (a : Addr) (v : Value) (ha : b ≠ a.block) : RowIn (w.setCell a v) b t k L := by
 unfold RowIn; rw [heap_setCell_other _ _ _ _ ha]; exact h
theorem RowIn.drew {w : World} {b : Nat} {t : TypeId} {k : IntKind} {L : List Int} (h : RowIn w b t k L) : RowIn w.drew b t k L := h
theorem RowIn.lt {w : World} {b : Nat} {t : TypeId} {k : IntKind} {L : List Int} (h : RowIn w b t k L) : b < w.heap.size := by
 unfold RowIn at h; exact (Array.getElem?_eq_some_iff.1 h).1
theorem RowIn.alloc {w : World} {b : Nat} {t : TypeId} {k : IntKind} {L : List Int} (h : RowIn w b t k L) (o : Obj) : RowIn (w.alloc o) b t k L := by
 exact (heap_alloc_old w o h.lt).trans h
theorem RowIn.below {w w' : World} {b B : Nat} {t : TypeId} {k : IntKind} {L : List Int} (h : RowIn w b t k L) (hb : Below B w w') (hlt : b < B) : RowIn w' b t k L := by
 unfold RowIn; rw [hb.block b hlt]; exact h
theorem RowIn.setRow {w : World} {b : Nat} {t : TypeId} {k : IntKind} {L : List Int} (h : RowIn w b t k L) (M : List Int) : RowIn (w.setRow b (M.map (Value.int k)).toArray) b t k M := setRow_heap _ _ _ _ _ _ h
theorem oneCell_map (k : IntKind) (L : List Int) : (L.map (Value.int k)).toArray.all (·.oneCell') = true :=
 all_oneCell_toArray (fun v hv => by simp at hv; obtain ⟨n, _, rfl⟩ := hv; rfl)
def hcells (st : St) (rest : List Int) (used : Nat) (len : Int) : List Value :=
 st.list.map (Value.int .u32) ++ (rest.map (Value.int .u8) ++ [.int .i64 used, .int .u64 len])
theorem below_of_grown {w w' : World} {hb : Nat} (h : w.grownBy w' (some hb)) (hlt : hb ≤ w.heap.size) : Below hb w w' := ⟨h.os, h.tape, h.output, h.size, fun k hk => h.block k (by omega) (fun e => by injection e; omega)⟩
theorem grown_set {w w' : World} {b : Nat} (h : w.grownBy w' (some b)) (i : Nat) (v : Value) : w.grownBy (w'.setCell ⟨b, i, none⟩ v) (some b) :=
 ⟨h.os, h.tape, h.output, by simp [World.setCell]; exact h.size, fun k hk hne => (Below.heap_setCell _ _ _ _ (fun e => hne (by rw [e]))).trans (h.block k hk hne)⟩
theorem Tryz.info25d : (Tryz.prog.info? 80).map (·.size) = some 32 := by kernel_rfl
def wb (x : Int) : List Int := [(x / 16777216) % 256, (x / 65536) % 256, (x / 256) % 256, x % 256]
def dbytes : List Int → List Int
 | [] => []
 | x :: r => wb x ++ dbytes r
theorem take_snoc0 (l : List Int) (k : Nat) (h : k < l.length) : l.take (k + 1) = l.take k ++ [l.getD k 0] := by
 rw [List.take_succ_eq_append_getElem h]; simp [List.getD_eq_getElem?_getD, List.getElem?_eq_getElem h]
structure DigAt (B : Nat) (w wr : World) (L : List Int) : Prop where
 row : RowIn wr (B + 1) 80 .u8 L
 res : RowIn wr B 80 .u8 (List.replicate 32 0)
 bel : Below B w wr
 size : wr.heap.size = B + 2
theorem DigAt.start (w : World) : DigAt w.heap.size w ((w.alloc (.cells (Array.replicate 32 (Value.int .u8 0)) 80)).alloc (.cells (Array.replicate 32 (Value.int .u8 0)) 80)) (fillTo 32 []) :=
 ⟨heap_alloc2_new _ _ _, heap_alloc2_old _ _ _, ((Below.refl _ _).alloc (Nat.le_refl _) _).alloc (by simp) _, by simp⟩
theorem DigAt.put {B : Nat} {w wr : World} {L : List Int} (h : DigAt B w wr L) (i : Nat) (v : Int) : DigAt B w (wr.setCell ⟨B + 1, i, none⟩ (.int .u8 v)) (L.set i v) :=
 ⟨h.row.put i v, h.res.put_other _ _ (by simp), h.bel.setCell (by simp) _, by simp [World.setCell, h.size]⟩
end Go.Proofs.YtecllfbadciaoaaGreatDoor
