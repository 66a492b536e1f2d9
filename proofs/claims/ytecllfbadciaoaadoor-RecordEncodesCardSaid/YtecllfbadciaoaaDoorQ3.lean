/-
  The walk of follow: the changes that have the effect of two lists, one behind the other (conditions: digests of 32 bytes, at most 400000 elements each).
-/
import Derived.Test.YtecllfbadciaoaaDoorZip
import Derived.Test.YtecllfbadciaoaaDoorQ2
import Derived.Shelf.Abstract
import Derived.Laws.StructEq
set_option maxRecDepth 100000
set_option maxHeartbeats 8000000
namespace Go.Proofs.YtecllfbadciaoaaDoor
open Go.RowKit Go.Shelf
attribute [local go_sem] Oper.semAt_some
end Go.Proofs.YtecllfbadciaoaaDoor
namespace Go.Proofs.YtecllfbadciaoaaDoor
open Go.RowKit
theorem OwnE.base {w : World} {b b' : Nat} {v : Value} {l : List En} (h : OwnE w b v l) (hb : b' ≤ b) : OwnE w b' v l := by
 refine ⟨?_, h.2⟩
 obtain ⟨hl, h1 | ⟨g, cap, cur, e, hbg, rest⟩⟩ := h.1
 ·exact ⟨hl, .inl h1⟩
 ·exact ⟨hl, .inr ⟨g, cap, cur, e, Nat.le_trans hb hbg, rest⟩⟩
theorem CgsIn.up {w w' : World} {B : Nat} {sp : Option Addr} {n cap : Nat} {l : List Cg} (h : CgsIn w B sp n cap l) (hb : Below B w w') (hs : B ≤ w.heap.size) : CgsIn w' w'.heap.size sp n cap l :=
 (h.below hb (Nat.le_refl _)).below (Below.refl w'.heap.size w') (Nat.le_trans hs hb.size)
theorem EnsIn.up {w w' : World} {B : Nat} {sp : Option Addr} {n cap : Nat} {l : List En} (h : EnsIn w B sp n cap l) (hb : Below B w w') (hs : B ≤ w.heap.size) : EnsIn w' w'.heap.size sp n cap l :=
 (h.below hb (Nat.le_refl _)).below (Below.refl w'.heap.size w') (Nat.le_trans hs hb.size)
theorem wp_slice_eqS {P : Program} {o : Oper} {a : Act} {w : World} {K : Act → World → Prop} {Q : Exit → Act → World → Prop} (t : TypeId) (k : Nat) (parts : List (Nat × Operand)) (ho : o.op = .buildSlice t k parts.toArray)
 (vs : List (Nat × Value)) (hv : (parts.map fun (i, x) => (i, a.eval x)) = vs) (v : Value) (w' : World) (hrun : (Instr.buildSlice t k vs.toArray).run P w = .ok v w') (h : K (a.put o.dst v) w') : o.wp P a w K Q := by
 unfold Oper.wp execOp
 simp only [ho, Sem.run_bind, List.map_toArray, hv, hrun, Result.andThen_ok]
 exact h
theorem EnsIn.at {w : World} {B g off n cap : Nat} {l : List En} (h : EnsIn w B (some ⟨g, off, none⟩) n cap l) {i : Nat} {x : En} (hi : l[i]? = some x) : g < B ∧ w.rangeAt g (off + i * 33) (enL x) := by
 have hl := (List.getElem?_eq_some_iff.1 hi).1
 obtain ⟨b, o, e, hb, _, hr⟩ := h.cells (by have := h.len; omega)
 injection e with e; injection e with e1 e2; subst e1 e2
 exact ⟨hb, hr i x hi⟩
theorem rngE_p {w : World} {g o : Nat} {x : En} (h : w.rangeAt g o (enL x)) : w.cell? ⟨g, o, none⟩ = some (.string x.p) := h 0 _ rfl
theorem rngE_d {w : World} {g o : Nat} {x : En} (h : w.rangeAt g o (enL x)) : w.rangeAt g (o + 1) (x.d.map (Value.int .u8)) := rng_sub h 1 _ (fun j v hv => by
 unfold enL; rw [Nat.add_comm, List.getElem?_cons_succ]; exact hv)
theorem indexByteLite_anyS (s : ByteArray) (c : Int) (w : World) :
 Calls Tryd.prog 57 #[.string s, .int .u8 c] w fun e w' => e = .returned (.int .i64 (Lib.indexByte s.data.toList c.toNat.toUInt8)) ∧ w = w' := by
 go_enter Tryd.func57, Tryd.ntmps57
 go_wp2
 rw [run_callFunc_extern Tryd.func72 (by kernel_rfl) (by kernel_rfl) (by kernel_rfl) (e := Extern.BytealgIndexByte.indexByte) (by kernel_rfl), Lib.run_indexByteString]
 simp only [Result.andThen]
 rw [Oper.upon_value]
 go_wp2
 go_ret
 exact ⟨rfl, rfl⟩
def oneB (c : UInt8) : ByteArray := ⟨#[c]⟩
theorem oneB_size (c : UInt8) : (oneB c).size = 1 := rfl
theorem oneB_at (c : UInt8) (h : 0 < (oneB c).size) : (oneB c)[0] = c := rfl
theorem indexB_oneS (s : ByteArray) (c : UInt8) : Lib.indexB s (oneB c) = Lib.indexByte s.data.toList c := by
 show Lib.index s.data.toList [c] = _
 exact Lib.index_one _ _
theorem byte_backS (c : UInt8) : ((c.toNat : Int)).toNat.toUInt8 = c := by simp
theorem indexLite_anyS (s : ByteArray) (c : UInt8) (w : World) :
 Calls Tryd.prog 73 #[.string s, .string (oneB c)] w fun e w' => e = .returned (.int .i64 (Lib.indexB s (oneB c))) ∧ w = w' := by
 have hsz := oneB_size c
 have hat := oneB_at c
 rw [indexB_oneS]
 have hne : (oneB c).toList ≠ [] := by rw [Lib.toList_data]; simp [oneB]
 by_cases h : ((oneB c).toList == s.toList) = true
 ·have hl : s.data.toList = [c] := by rw [beq_iff_eq, Lib.toList_data, Lib.toList_data] at h; exact h.symm
  have HI : Hid (Lib.indexByte s.data.toList c = 0) := by show _ = _; rw [hl]; simp [Lib.indexByte]
  clear hl
  go_enter Tryd.func73, Tryd.ntmps73
  go_wp2_with fail
  go_ret
  exact ⟨by rw [HI.out]; rfl, rfl⟩
 ·have h : ((oneB c).toList == s.toList) = false := by simpa using h
  have HC := zh (fun w => indexByteLite_anyS s (c.toNat : Int) w)
  have HB := zh (byte_backS c)
  go_enter Tryd.func73, Tryd.ntmps73
  go_wp2_with fail
  refine (HC.out _).mono ?_
  rintro e w' ⟨rfl, rfl⟩
  rw [HB.out]
  go_wp2_with fail
  go_ret
  exact ⟨rfl, rfl⟩
theorem index_anyS (s : ByteArray) (c : UInt8) (w : World) :
 Calls Tryd.prog 77 #[.string s, .string (oneB c)] w fun e w' => e = .returned (.int .i64 (Lib.indexB s (oneB c))) ∧ w = w' := by
 go_enter Tryd.func77, Tryd.ntmps77
 go_wp2_with (go_at_call 73; refine (indexLite_anyS _ _ _).mono ?_; rintro e w' ⟨rfl, rfl⟩)
 go_ret
 exact ⟨rfl, rfl⟩
theorem countB_oneS (s : ByteArray) (c : UInt8) : Lib.countB s (oneB c) = Lib.countByte s.data.toList c := by
 show Lib.count s.data.toList [c] = _
 exact Lib.count_one _ _
theorem count_anyS (s : ByteArray) (c : UInt8) (w : World) :
 Calls Tryd.prog 76 #[.string s, .string (oneB c)] w fun e w' => e = .returned (.int .i64 (Lib.countB s (oneB c) : Int)) ∧ w = w' := by
 have hsz := oneB_size c
 have hat := oneB_at c
 rw [countB_oneS]
 have HB := zh (byte_backS c)
 go_enter Tryd.func76, Tryd.ntmps76
 go_wp2_with fail
 rw [run_callFunc_extern Tryd.func89 (by kernel_rfl) (by kernel_rfl) (by kernel_rfl) (e := Extern.BytealgCount.count) (by kernel_rfl), Lib.run_countString, HB.out]
 simp only [Result.andThen]
 rw [Oper.upon_value]
 go_wp2_with fail
 go_ret
 exact ⟨rfl, rfl⟩
theorem infoStrS : (Tryd.prog.info? 9).map (fun i => (i.zero, i.size, i.bytes)) = some (some (.string ByteArray.empty), 1, 16) := by kernel_rfl
theorem makeS (n : Nat) (h : n ≤ 100000000) (w : World) : (Instr.makeSlice 22 (.int .i64 ((n : Int) + 1)) (.int .i64 ((n : Int) + 1))).run Tryd.prog w = .ok (.slice (some ⟨w.heap.size, 0, none⟩) (n + 1) (n + 1)) (w.alloc (.cells (Lib.cellsOf [] (n + 1)) 9)) := by
 have h1 := run_make_row' (P := Tryd.prog) 22 9 (.string ByteArray.empty) 16 Tryd.underlying22 infoStrS rfl .i64 .i64 (n + 1) (by omega) (by omega) w
 rw [← Lib.cellsOf_nil] at h1
 exact h1
theorem splitB_missS (s : ByteArray) (c : UInt8) (h : Lib.indexB s (oneB c) = -1) (m : Nat) : Lib.splitB (oneB c) 0 m s = [s] := Lib.splitB_miss _ _ _ _ h
theorem genSplit_anyS (s : ByteArray) (c : UInt8) (w : World) (hs : s.size ≤ 10000000) :
 Calls Tryd.prog 62 #[.string s, .string (oneB c), .int .i64 0, .int .i64 (-1)] w fun e w' => e = .returned (.slice (some ⟨w.heap.size, 0, none⟩) (Lib.countB s (oneB c) + 1) (Lib.countB s (oneB c) + 1)) ∧
  w' = w.alloc (.cells ((Lib.splitB (oneB c) 0 (Lib.countB s (oneB c)) s).map Value.string).toArray 9) := by
 have hsz := oneB_size c
 have hne : (oneB c).toList ≠ [] := by rw [Lib.toList_data]; simp [oneB]
 have hn1 : ((oneB c).toList == []) = false := by simpa using hne
 have hn2 : (oneB c).toList.isEmpty = false := by simpa using hne
 have hle := Lib.countB_le (oneB c) (by rw [hsz]; exact Nat.le_refl _) s.size s (Nat.le_refl _)
 have hall := Lib.splitB_all (oneB c) (by rw [hsz]; exact Nat.le_refl _) 0 _ s rfl
 have HC := zh (fun w => count_anyS s c w)
 have HIX := zh (fun r w => index_anyS r c w)
 obtain ⟨N, hN⟩ : ∃ N, Lib.countB s (oneB c) = N := ⟨_, rfl⟩
 rw [hN] at hle hall HC ⊢
 obtain ⟨ps, hps⟩ : ∃ ps, Lib.splitB (oneB c) 0 N s = ps := ⟨_, rfl⟩
 rw [hps] at hall ⊢
 have HALL := zh hall; have HPS := zh hps
 have hmin : min ((N : Int) + 1) ((s.size : Int) + 1) = (N : Int) + 1 := Int.min_eq_left (by omega)
 have hmk := makeS N (by omega)
 have q1 : (N : Int) ≤ 10000000 := by omega
 clear hN hall hps
 go_enter Tryd.func62, Tryd.ntmps62
 go_wp2_with fail
 refine (HC.out _).mono ?_
 rintro e w' ⟨rfl, rfl⟩
 go_wp2_with fail
 clear hmk hmin HC
 go_loopw [0, 10] (fun sv iv wr => ∃ (done : List ByteArray) (rest : ByteArray), sv = .string rest ∧ iv = .int .i64 (done.length : Int) ∧ done.length ≤ N ∧ rest.size ≤ s.size ∧ Hid (done ++ Lib.splitB (oneB c) 0 (N - done.length) rest = ps) ∧ wr = w.alloc (.cells (Lib.cellsOf done (N + 1)) 9)) (fun _ iv _ => N - (intOf iv).toNat)
 case atStart => exact ⟨[], s, rfl, rfl, Nat.zero_le _, Nat.le_refl _, HPS.out, rfl⟩
 case round =>
  obtain ⟨done, rest, rfl, rfl, hd, hrs, HS, rfl⟩ := hrel
  have hnext : (Lib.cellsOf done (N + 1))[done.length]? = some (.string ByteArray.empty) := Lib.cellsOf_next (by omega)
  have hcz := Lib.cellsOf_size (done := done) (N := N + 1) (by omega)
  have HSET := zh (fun x => Lib.cellsOf_set (done := done) (N := N + 1) (by omega) x)
  obtain ⟨k, hk⟩ : ∃ k, done.length = k := ⟨_, rfl⟩
  rw [hk] at hnext HSET hd HS ⊢
  have HK := zh hk
  have p1 : (0 : Int) ≤ (k : Int) := by omega
  have p2 : (k : Int) < (N : Int) + 1 := by omega
  by_cases hlt : k < N
  ·have hdl : decide ((k : Int) < (N : Int)) = true := by simp; omega
   rcases Lib.indexB_cases rest (oneB c) with hix | ⟨i, hix, hroom⟩
   ·exfalso
    have e := HS.out
    rw [splitB_missS rest c hix] at e
    have := HALL.out
    rw [← e, List.length_append, hk] at this
    simp at this
    omega
   ·have HI := zh hix
    have hr1 : i + 1 ≤ rest.size := hroom
    have HSN : Hid ((done ++ [rest.extract 0 i]) ++ Lib.splitB (oneB c) 0 (N - (k + 1)) (rest.extract (i + 1) rest.size) = ps) := by
     show _ = _
     have e := HS.out
     rw [show N - k = (N - (k + 1)) + 1 by omega, Lib.splitB_hit (oneB c) 0 _ rest i hix] at e
     rw [← e, List.append_assoc]; rfl
    have c0 : decide ((i : Int) < 0) = false := by simp
    have c1 : (0 : Int) ≤ (i : Int) := by omega
    have c2 : (i : Int) ≤ (rest.size : Int) := by omega
    have c3 : (0 : Int) ≤ (i : Int) + 1 := by omega
    have c4 : (i : Int) + 1 ≤ (rest.size : Int) := by omega
    have c5 : ((i : Int) + 1).toNat = i + 1 := by omega
    have c6 : (i : Int) ≤ 10000000 := by omega
    clear hix hroom hk
    go_wp2_with fail
    refine (HIX.out rest _).mono ?_
    rintro e w' ⟨rfl, rfl⟩
    rw [HI.out]
    go_wp2_with fail
    go_roundw
    case rel =>
     refine ⟨done ++ [rest.extract 0 i], _, rfl, ?_, ?_, ?_, ?_, ?_⟩
     ·rw [List.length_append, HK.out]; go_num
     ·rw [List.length_append, HK.out]; exact hlt
     ·rw [ByteArray.size_extract]; omega
     ·rw [List.length_append, HK.out]; exact HSN
     ·rw [HSET.out]
    case measure => simp [intOf]; omega
  ·obtain rfl : k = N := by omega
   have hdl : decide ((k : Int) < (k : Int)) = false := by simp
   have HF : Hid ((Lib.cellsOf done (k + 1)).setIfInBounds k (.string rest) = (ps.map Value.string).toArray) := by
    show _ = _
    have e := HS.out
    rw [Nat.sub_self] at e
    have e2 : done ++ [rest] = ps := e
    rw [HSET.out, e2]
    have := Lib.cellsOf_full ps
    rw [HALL.out] at this
    exact this
   have p3 : (0 : Int) ≤ (k : Int) + 1 := by omega
   have p4 : ((k : Int) + 1).toNat = k + 1 := by omega
   clear hk
   go_wp2_with fail
   go_ret
   refine ⟨rfl, ?_⟩
   rw [← HF.out]
theorem split_anyS (s : ByteArray) (c : UInt8) (w : World) (hs : s.size ≤ 10000000) :
 Calls Tryd.prog 46 #[.string s, .string (oneB c)] w fun e w' => e = .returned (.slice (some ⟨w.heap.size, 0, none⟩) (Lib.countB s (oneB c) + 1) (Lib.countB s (oneB c) + 1)) ∧
  w' = w.alloc (.cells ((Lib.splitB (oneB c) 0 (Lib.countB s (oneB c)) s).map Value.string).toArray 9) := by
 have HC := zh (fun w => genSplit_anyS s c w hs)
 clear hs
 go_enter Tryd.func46, Tryd.ntmps46
 go_wp2_with fail
 refine (HC.out _).mono ?_
 rintro e w' ⟨rfl, rfl⟩
 go_wp2_with fail
 go_ret
 exact ⟨rfl, rfl⟩
theorem zero_free {l : List UInt8} (h : ∀ j, j < l.length → l.getD j 0 ≠ 0) : Lib.indexByte l 0 < 0 := by
 have hge := Lib.indexByte_ge l 0
 rcases Int.lt_or_le (Lib.indexByte l 0) 0 with h1 | h1
 ·exact h1
 ·obtain ⟨o, ho⟩ : ∃ o : Nat, Lib.indexByte l 0 = o := ⟨(Lib.indexByte l 0).toNat, by omega⟩
  have h2 := (Lib.indexByte_some ho).1
  obtain ⟨hlt, he⟩ := List.getElem?_eq_some_iff.1 h2
  exact absurd (by rw [List.getD_eq_getElem?_getD, h2]; rfl) (h o hlt)
theorem zero_in {l : List UInt8} {j : Nat} (hj : j < l.length) (h : l.getD j 0 = 0) : ¬ Lib.indexByte l 0 < 0 := by
 intro hn
 have hge := Lib.indexByte_ge l 0
 have := Lib.indexByte_none (l := l) (c := 0) (by omega) j
 apply this
 rw [List.getElem?_eq_getElem hj]
 rw [List.getD_eq_getElem?_getD, List.getElem?_eq_getElem hj] at h
 exact congrArg some h
theorem pathB_empty {s : ByteArray} (h : s.data.toList = []) : pathB s = false := by
 have e : s = ⟨#[]⟩ := by apply ByteArray.ext; apply Array.ext'; rw [h]
 subst e; decide +kernel
theorem seg_one (s : ByteArray) : (Lib.splitB (oneB 47) 0 (Lib.countB s (oneB 47)) s) = seg s := rfl
theorem seg_len (s : ByteArray) : (seg s).length = Lib.countB s (oneB 47) + 1 := Lib.splitB_all (oneB 47) (Nat.le_refl _) 0 _ s rfl
theorem getD_byteP (s : ByteArray) (i : Nat) (h : i < s.size) : s.data.toList.getD i 0 = s[i] := by
 rw [List.getD_eq_getElem?_getD, List.getElem?_eq_getElem (by simpa using h)]; rfl
theorem refPath_any (s : ByteArray) (w : World) :
 Calls Tryd.prog 63 #[.string s] w fun e w' => e = .returned (.bool (pathB s)) ∧ Below w.heap.size w w' := by
 by_cases he : s.size = 0
 ·have HN := zh (pathB_empty (s := s) (List.eq_nil_of_length_eq_zero (by rw [← Lib.size_eq]; exact he)))
  have hl : s.toList = [] := by rw [Lib.toList_data]; exact List.eq_nil_of_length_eq_zero (by rw [← Lib.size_eq]; exact he)
  clear he
  go_enter Tryd.func63, Tryd.ntmps63
  go_wp2_with fail
  go_ret
  exact ⟨by rw [HN.out]; rfl, Below.refl _ _⟩
 have hl : (s.toList == []) = false := by
  rw [Lib.toList_data, beq_eq_false_iff_ne]; intro e; apply he; rw [Lib.size_eq, e]; rfl
 have hl2 : ¬ s.toList = [] := by simpa using hl
 by_cases h200 : 200 < s.size
 ·have HN : Hid (pathB s = false) := by show _ = _; unfold pathB; rw [decide_eq_false (by omega)]; rfl
  have hd : decide ((s.size : Int) > 200) = true := by simp; omega
  go_enter Tryd.func63, Tryd.ntmps63
  go_wp2_with fail
  go_ret
  exact ⟨by rw [HN.out]; rfl, Below.refl _ _⟩
 have hd : decide ((s.size : Int) > 200) = false := by simp; omega
 have hsz : s.size ≤ 200 := by omega
 have HSP := zh (fun w => split_anyS s 47 w (by omega))
 have hlen := seg_len s
 obtain ⟨N, hN⟩ : ∃ N, Lib.countB s (oneB 47) = N := ⟨_, rfl⟩
 have hle := Lib.countB_le (oneB 47) (Nat.le_refl _) s.size s (Nat.le_refl _)
 rw [seg_one, hN] at HSP
 rw [hN] at hlen hle
 have HL := zh hlen
 have HPO : Hid (∀ (h : Lib.indexByte s.data.toList 0 < 0), pathB s = (seg s).all goodB) := fun h => pathB_of s hsz h
 have HPF : Hid (∀ j, j < s.size → s.data.toList.getD j 0 = 0 → pathB s = false) := fun j hj h => by
  unfold pathB; rw [decide_eq_false (zero_in (by rw [← Lib.size_eq]; exact hj) h), Bool.and_false]; rfl
 have HLS := zh (Lib.size_eq s)
 clear hN hlen he h200
 go_enter Tryd.func63, Tryd.ntmps63
 go_wp2_with fail
 go_loopw [3] (fun i wr => ∃ k : Nat, k ≤ s.size ∧ i = .int .i64 k ∧ Hid (∀ j, j < k → s.data.toList.getD j 0 ≠ 0) ∧ Hid (wr = w)) (fun i _ => s.size - (intOf i).toNat)
 case atStart => exact ⟨0, Nat.zero_le _, rfl, fun j hj => absurd hj (by omega), rfl⟩
 case round =>
  obtain ⟨k, hk, rfl, HZ, hw⟩ := hrel
  obtain rfl := hw.out
  clear hw
  by_cases hlt : k < s.size
  ·have hd1 : decide ((k : Int) < (s.size : Int)) = true := by simp; omega
   have p1 : (0 : Int) ≤ (k : Int) := by omega
   have p2 : (k : Int) < (s.size : Int) := by omega
   have HG := zh (getD_byteP s k hlt)
   by_cases hz : s[k] = 0
   ·have t0 : ((s[k].toNat : Int) == 0) = true := by rw [hz]; rfl
    have HX := zh (HPF.out k hlt (by rw [HG.out, hz]))
    clear hz
    go_wp2_with fail
    go_ret
    exact ⟨by rw [HX.out]; rfl, Below.refl _ _⟩
   ·have t0 : ((s[k].toNat : Int) == 0) = false := by
     rw [beq_eq_false_iff_ne]; intro e; apply hz; apply UInt8.toNat_inj.1; show s[k].toNat = 0; omega
    have HZ2 : Hid (∀ j, j < k + 1 → s.data.toList.getD j 0 ≠ 0) := fun j hj => by
     by_cases h : j < k
     ·exact HZ.out j h
     ·obtain rfl : j = k := by omega
      rw [HG.out]; exact hz
    clear hz
    go_wp2_with fail
    go_roundw
    case rel => exact ⟨k + 1, by omega, by go_num, HZ2, by first | rfl | exact trivial⟩
    case measure => simp [intOf]; omega
  ·obtain rfl : k = s.size := by omega
   have hd1 : decide ((s.size : Int) < (s.size : Int)) = false := by simp
   have HA := zh (HPO.out (zero_free (fun j hj => HZ.out j (by rw [HLS.out]; exact hj))))
   clear HZ HPO HPF
   go_wp2_with fail
   refine (HSP.out _).mono ?_
   rintro e w1 ⟨rfl, hw1⟩
   have hrow : w1.heap[wr.heap.size]? = some (.cells ((seg s).map Value.string).toArray 9 (0, 0)) := by rw [hw1]; exact heap_alloc_new wr _
   have HB1 : Hid (Below wr.heap.size wr w1) := by show Below _ _ _; rw [hw1]; exact (Below.refl _ _).alloc (Nat.le_refl _) _
   have hcell : ∀ j, j < N + 1 → w1.cell? ⟨wr.heap.size, j, none⟩ = some (.string ((seg s).getD j ByteArray.empty)) := fun j hj => by
    rw [cell_of_row w1 _ j _ _ _ hrow]; simp [HL.out, hj]
   have HCL := zh hcell
   clear hw1 hrow hcell
   go_wp2_with fail
   go_loopw [5] (fun i wx => ∃ k : Nat, k ≤ N + 1 ∧ i = .int .i64 k ∧ Hid (((seg s).take k).all goodB = true) ∧ Hid (wx = w1)) (fun i _ => N + 1 - (intOf i).toNat)
   case atStart => exact ⟨0, Nat.zero_le _, rfl, rfl, rfl⟩
   case round =>
    obtain ⟨k, hk, rfl, HG, hw⟩ := hrel
    obtain rfl := hw.out
    clear hw
    by_cases hlt : k < N + 1
    ·have hd2 : decide ((k : Int) < (N : Int) + 1) = true := by simp; omega
     have p1 : (0 : Int) ≤ (k : Int) := by omega
     have p2 : (k : Int) < (N : Int) + 1 := by omega
     have c1 := HCL.out k hlt
     have HSN : Hid (((seg s).take (k + 1)).all goodB = (((seg s).take k).all goodB && goodB ((seg s).getD k ByteArray.empty))) := by
      show _ = _
      have hkl : k < (seg s).length := by rw [HL.out]; exact hlt
      rw [List.take_succ_eq_append_getElem hkl, List.all_append, List.getD_eq_getElem?_getD, List.getElem?_eq_getElem hkl]; simp
     have HBAD : Hid (goodB ((seg s).getD k ByteArray.empty) = false → (seg s).all goodB = false) := fun h => by
      have hkl : k < (seg s).length := by rw [HL.out]; exact hlt
      rw [List.all_eq_false]
      refine ⟨(seg s)[k], List.getElem_mem hkl, ?_⟩
      rw [List.getD_eq_getElem?_getD, List.getElem?_eq_getElem hkl] at h
      simp at h
      rw [h]; simp
     obtain ⟨x, hx⟩ : ∃ x, (seg s).getD k ByteArray.empty = x := ⟨_, rfl⟩
     rw [hx] at c1 HSN HBAD
     clear hx
     by_cases hg : goodB x = true
     ·obtain ⟨g1, g2, g3⟩ := goodB_parts hg
      have HGN : Hid (((seg s).take (k + 1)).all goodB = true) := by show _ = _; rw [HSN.out, HG.out, hg]; rfl
      clear hg
      go_wp2_with fail
      go_roundw
      case rel => exact ⟨k + 1, by omega, by go_num, HGN, by first | rfl | exact trivial⟩
      case measure => simp [intOf]; omega
     ·have hg : goodB x = false := by simpa using hg
      have HX : Hid (pathB s = false) := by show _ = _; rw [HA.out]; exact HBAD.out hg
      have hcs : (x.toList == []) = true ∨ ((x.toList == []) = false ∧ (x.toList == [46]) = true) ∨ ((x.toList == []) = false ∧ (x.toList == [46]) = false ∧ (x.toList == [46, 46]) = true) := by
       unfold goodB at hg
       cases h1 : (x.toList == []) <;> cases h2 : (x.toList == [46]) <;> cases h3 : (x.toList == [46, 46]) <;> simp_all
      clear hg
      rcases hcs with g1 | ⟨g1, g2⟩ | ⟨g1, g2, g3⟩
      all_goals
       go_wp2_with fail
       go_ret
       exact ⟨by rw [HX.out]; rfl, HB1.out⟩
    ·obtain rfl : k = N + 1 := by omega
     have hd2 : decide ((N : Int) + 1 < (N : Int) + 1) = false := by simp
     have hcast : ((N + 1 : Nat) : Int) = (N : Int) + 1 := by omega
     have HX : Hid (pathB s = true) := by
      show _ = _; rw [HA.out]
      have := HG.out
      rw [List.take_of_length_le (by rw [HL.out]; exact Nat.le_refl _)] at this
      exact this
     go_wp2_with fail
     go_ret
     exact ⟨by rw [HX.out]; rfl, HB1.out⟩
end Go.Proofs.YtecllfbadciaoaaDoor
