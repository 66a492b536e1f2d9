/-
  The walk of RecordLinks (conditions: the record and the tape stand in memory; the table of powers of ten reads as it is laid).
-/
import Derived.Test.YtecllfbadciaoaaGreatDoorZip
import Derived.Test.YtecllfbadciaoaaGreatDoorRecV
import Derived.Test.YtecllfbadciaoaaGreatDoorQ21
import Derived.Test.YtecllfbadciaoaaGreatDoorQ19
set_option maxRecDepth 100000
set_option maxHeartbeats 8000000
namespace Go.Proofs.YtecllfbadciaoaaGreatDoor
open Go.RowKit
theorem snap_of_vld {l : List En} (h : vldE l = true) : Snap l := by
 refine ⟨(vldE_parts h).2.1, fun x hx => ?_, (vldE_parts h).2.2⟩
 unfold vldE at h
 rw [Bool.and_eq_true, Bool.and_eq_true, Bool.not_eq_true', List.any_eq_false] at h
 have := h.1.2 x hx
 unfold badE at this
 simp at this
 exact this.2
theorem sameLinkR_any (s : ByteArray) (p1 : Option Addr) (n1 c1 : Nat) (a : List En) (p2 : Option Addr) (n2 c2 : Nat) (b : List En) (q1 : Option Addr) (d1 : Nat) (q2 : Option Addr) (d2 : Nat) (w : World)
 (h1 : EnsIn w w.heap.size p1 n1 c1 a) (h2 : EnsIn w w.heap.size p2 n2 c2 b) (h3 : EnsIn w w.heap.size q1 n1 d1 a) (h4 : EnsIn w w.heap.size q2 n2 d2 b) (hn1 : n1 ≤ 1000) (hn2 : n2 ≤ 1000) :
 Calls Tryz.prog 18 #[.agg (lkL s (.slice p1 n1 c1) (.slice p2 n2 c2)).toArray, .agg (lkL s (.slice q1 n1 d1) (.slice q2 n2 d2)).toArray] w fun e w' => e = .returned (.bool true) ∧ Below w.heap.size w w' := by
 have hb0 : Below w.heap.size w (w.alloc (.cells (lkL s (.slice p1 n1 c1) (.slice p2 n2 c2)).toArray 46)) := (Below.refl _ _).alloc (Nat.le_refl _) _
 have hr0 : (w.alloc (.cells (lkL s (.slice p1 n1 c1) (.slice p2 n2 c2)).toArray 46)).heap[w.heap.size]? = some (.cells (lkL s (.slice p1 n1 c1) (.slice p2 n2 c2)).toArray 46 (0, 0)) := heap_alloc_new _ _
 have hlt : w.heap.size < (w.alloc (.cells (lkL s (.slice p1 n1 c1) (.slice p2 n2 c2)).toArray 46)).heap.size := by simp
 have HB0 := zh hb0; have HR0 := zh hr0; have HLT := zh hlt
 clear hb0 hr0 hlt
 have H1 := zh h1; have H2 := zh h2; have H3 := zh h3; have H4 := zh h4
 clear h1 h2 h3 h4
 go_enter Tryz.func18, Tryz.ntmps18
 go_upto_region 1 with fail
 have hsz : (World.alloc w (.cells (lkL s (.slice p1 n1 c1) (.slice p2 n2 c2)).toArray 46)).heap.size = w.heap.size + 1 := by simp
 generalize World.alloc w (.cells (lkL s (.slice p1 n1 c1) (.slice p2 n2 c2)).toArray 46) = w0 at *
 have HB1' : Hid (Below w0.heap.size w0 (w0.alloc (.cells (lkL s (.slice q1 n1 d1) (.slice q2 n2 d2)).toArray 46))) := (Below.refl _ _).alloc (Nat.le_refl _) _
 have HR1' : Hid ((w0.alloc (.cells (lkL s (.slice q1 n1 d1) (.slice q2 n2 d2)).toArray 46)).heap[w0.heap.size]? = some (.cells (lkL s (.slice q1 n1 d1) (.slice q2 n2 d2)).toArray 46 (0, 0))) := heap_alloc_new _ _
 have HG1' : Hid (w0.heap.size < (w0.alloc (.cells (lkL s (.slice q1 n1 d1) (.slice q2 n2 d2)).toArray 46)).heap.size) := by show _ < _; simp
 generalize World.alloc w0 (.cells (lkL s (.slice q1 n1 d1) (.slice q2 n2 d2)).toArray 46) = w1 at *
 have HRA : Hid (w1.heap[w.heap.size]? = some (.cells (lkL s (.slice p1 n1 c1) (.slice p2 n2 c2)).toArray 46 (0, 0))) := (HB1'.out.block _ HLT.out).trans HR0.out
 have HB1 : Hid (Below w.heap.size w w1) := HB0.out.trans (HB1'.out.mono HB0.out.size)
 have HLT1 : Hid (w.heap.size < w1.heap.size) := Nat.lt_of_lt_of_le HLT.out HB1'.out.size
 obtain ⟨g0, hg0⟩ : ∃ g0, g0 = w0.heap.size := ⟨_, rfl⟩
 rw [← hg0] at HR1' HG1'
 rw [hsz] at hg0
 rw [← hg0]
 clear hg0 hsz HB1' HR0 HLT HB0
 have a0 : w1.cell? ⟨w.heap.size, 0, none⟩ = some (.string s) := heap_cellR HRA.out rfl
 have a1 : w1.cell? ⟨w.heap.size, 1, none⟩ = some (.slice p1 n1 c1) := heap_cellR HRA.out rfl
 have b0 : w1.cell? ⟨g0, 0, none⟩ = some (.string s) := heap_cellR HR1'.out rfl
 have b1 : w1.cell? ⟨g0, 1, none⟩ = some (.slice q1 n1 d1) := heap_cellR HR1'.out rfl
 have HS1 := zh (sameE_any p1 n1 c1 a q1 n1 d1 a w1 (H1.out.upR HB1.out) (H3.out.upR HB1.out) (by omega))
 have hda : decide (a = a) = true := decide_eq_true rfl
 rw [hda] at HS1
 go_wp2_with fail
 refine HS1.out.mono ?_
 rintro e w2 ⟨rfl, hb⟩
 have HB2 : Hid (Below w.heap.size w w2) := HB1.out.trans (hb.mono HB1.out.size)
 have a2 : w2.cell? ⟨w.heap.size, 2, none⟩ = some (.slice p2 n2 c2) := heap_cellR ((hb.block _ HLT1.out).trans HRA.out) rfl
 have b2 : w2.cell? ⟨g0, 2, none⟩ = some (.slice q2 n2 d2) := heap_cellR ((hb.block _ HG1'.out).trans HR1'.out) rfl
 have HS2 := zh (sameE_any p2 n2 c2 b q2 n2 d2 b w2 (H2.out.upR HB2.out) (H4.out.upR HB2.out) (by omega))
 have hdb : decide (b = b) = true := decide_eq_true rfl
 rw [hdb] at HS2
 clear hb HS1 a0 a1 b0 b1 hda hdb HRA HR1' HB1
 go_wp2_with fail
 refine HS2.out.mono ?_
 rintro e w3 ⟨rfl, hb⟩
 have HB3 : Hid (Below w.heap.size w w3) := HB2.out.trans (hb.mono HB2.out.size)
 clear hb HS2 a2 b2
 go_wp2_with fail
 go_ret
 exact ⟨rfl, HB3.out⟩
theorem pnk_long {l : List UInt8} (h : 13 < l.length) : pnk l = false ∧ pnv l = 0 := by
 by_cases hz : lz l = true
 ·exact pnk_no (.inr (.inl hz))
 ·by_cases hd : l.all isD = true
  ·have h0 : l ≠ [] := fun e => by rw [e] at h; exact absurd h (by decide)
   have hh : l.head? ≠ some 48 := fun e => hz (by unfold lz; rw [e, decide_eq_true rfl, decide_eq_true (by omega)]; rfl)
   have h1 := valL_big hd h0 hh
   have h2 : 10 ^ 13 ≤ 10 ^ (l.length - 1) := Nat.pow_le_pow_right (by omega) (by omega)
   exact pnk_no (.inr (.inr (.inr (by omega))))
  ·exact pnk_no (.inr (.inr (.inl (by simpa using hd))))
theorem refParseNumber_any (s : ByteArray) (w : World) :
 Calls Tryz.prog 33 #[.string s] w fun e w' => e = .returned (.tuple #[.int .i64 (pnv s.data.toList), .bool (pnk s.data.toList)]) ∧ w = w' := by
 by_cases he : s.size = 0
 ·have hl : s.data.toList = [] := List.eq_nil_of_length_eq_zero (by rw [← Lib.size_eq]; exact he)
  have HN := zh (pnk_no (l := s.data.toList) (.inl hl))
  have hl2 : s.toList = [] := by rw [Lib.toList_data]; exact hl
  clear hl he
  go_enter Tryz.func33, Tryz.ntmps33
  go_wp2_with fail
  go_ret2
  exact ⟨by rw [HN.out.1, HN.out.2]; rfl, rfl⟩
 have hne : s.data.toList ≠ [] := fun h => he (by rw [Lib.size_eq, h]; rfl)
 have hl : (s.toList == []) = false := by rw [Lib.toList_data, beq_eq_false_iff_ne]; exact hne
 have hl2 : ¬ s.toList = [] := by simpa using hl
 by_cases h13 : 13 < s.size
 ·have HN := zh (pnk_long (l := s.data.toList) (by rw [← Lib.size_eq]; exact h13))
  have hd : decide ((s.size : Int) > 13) = true := by simp; omega
  clear hne he
  go_enter Tryz.func33, Tryz.ntmps33
  go_wp2_with fail
  go_ret2
  exact ⟨by rw [HN.out.1, HN.out.2]; rfl, rfl⟩
 have hd13 : decide ((s.size : Int) > 13) = false := by simp; omega
 have h0 : 0 < s.size := by omega
 have p0 : (0 : Int) < (s.size : Int) := by omega
 have hh := getD_byteN s 0 h0
 have hhd : s.data.toList.head? = some s[0] := by rw [← hh, List.head?_eq_getElem?]
 have hcs : (((s[0].toNat : Int) == 48) = true ∧ decide ((s.size : Int) > 1) = true ∧ lz s.data.toList = true) ∨ (((s[0].toNat : Int) == 48) = true ∧ decide ((s.size : Int) > 1) = false ∧ lz s.data.toList = false) ∨ (((s[0].toNat : Int) == 48) = false ∧ lz s.data.toList = false) := by
  have hsz := Lib.size_eq s
  by_cases h : s[0] = 48
  ·have e1 : ((s[0].toNat : Int) == 48) = true := by rw [h]; rfl
   by_cases h2 : 1 < s.size
   ·exact .inl ⟨e1, by simp; omega, by unfold lz; rw [hhd, h, decide_eq_true rfl, decide_eq_true (by omega)]; rfl⟩
   ·exact .inr (.inl ⟨e1, by simp; omega, by unfold lz; rw [decide_eq_false (p := 1 < _) (by omega), Bool.and_false]⟩)
  ·refine .inr (.inr ⟨?_, ?_⟩)
   ·rw [beq_eq_false_iff_ne]; intro e; apply h; apply UInt8.toNat_inj.1; show s[0].toNat = 48; omega
   ·unfold lz; rw [hhd, decide_eq_false (fun e => h (by simpa using e))]; rfl
 have HH := zh hne
 clear hh hhd hne
 rcases hcs with ⟨t1, t2, hz⟩ | hcs
 ·have HN := zh (pnk_no (l := s.data.toList) (.inr (.inl hz)))
  clear hz
  go_enter Tryz.func33, Tryz.ntmps33
  go_wp2_with fail
  go_ret2
  exact ⟨by rw [HN.out.1, HN.out.2]; rfl, rfl⟩
 ·have hz : lz s.data.toList = false := by rcases hcs with ⟨_, _, h⟩ | ⟨_, h⟩ <;> exact h
  have HZ := zh hz
  have hcs : (((s[0].toNat : Int) == 48) = true ∧ decide ((s.size : Int) > 1) = false) ∨ ((s[0].toNat : Int) == 48) = false := by
   rcases hcs with ⟨h1, h2, _⟩ | ⟨h1, _⟩
   ·exact .inl ⟨h1, h2⟩
   ·exact .inr h1
  have HPN : Hid (∀ h : s.data.toList.all isD = false ∨ 1099511627776 < valL s.data.toList, pnk s.data.toList = false ∧ pnv s.data.toList = 0) := fun h => pnk_no (.inr (.inr h))
  have HPY : Hid (∀ (h1 : s.data.toList.all isD = true) (h2 : valL s.data.toList ≤ 1099511627776), pnk s.data.toList = true ∧ pnv s.data.toList = (valL s.data.toList : Int)) := fun h1 h2 => pnk_yes HH.out HZ.out h1 h2
  have HLS := zh (Lib.size_eq s)
  clear hz
  rcases hcs with ⟨t1, t3⟩ | t1
  all_goals
   go_enter Tryz.func33, Tryz.ntmps33
   go_wp2_with fail
   go_loopw [4, 5] (fun v i wr => ∃ (k V : Nat), k ≤ s.size ∧ i = .int .i64 k ∧ v = .int .i64 V ∧ V < 10000000000000 ∧ Hid (V = valL (s.data.toList.take k)) ∧ Hid ((s.data.toList.take k).all isD = true) ∧ Hid (wr = w)) (fun _ i _ => s.size - (intOf i).toNat)
   case atStart => exact ⟨0, 0, Nat.zero_le _, rfl, rfl, by omega, rfl, rfl, rfl⟩
   case round =>
    obtain ⟨k, V, hk, rfl, rfl, hV, HV, HA, hw⟩ := hrel
    obtain rfl := hw.out
    clear hw
    by_cases hlt : k < s.size
    ·have hd : decide ((k : Int) < (s.size : Int)) = true := by simp; omega
     have p1 : (0 : Int) ≤ (k : Int) := by omega
     have p2 : (k : Int) < (s.size : Int) := by omega
     have HG := zh (getD_byteN s k hlt)
     cases hc : isD s[k]
     ·have HN := zh (HPN.out (.inl (all_take_no HG.out hc)))
      have hcs2 : decide ((s[k].toNat : Int) < 48) = true ∨ (decide ((s[k].toNat : Int) < 48) = false ∧ decide ((s[k].toNat : Int) > 57) = true) := by
       unfold isD at hc
       by_cases h1 : s[k].toNat < 48
       ·exact .inl (by simp; omega)
       ·refine .inr ⟨by simp; omega, ?_⟩
        rw [decide_eq_true (by omega), Bool.true_and, decide_eq_false_iff_not] at hc
        simp; omega
      clear hc HPN HPY
      rcases hcs2 with d1 | ⟨d1, d2⟩
      all_goals
       go_wp2_with fail
       go_ret2
       exact ⟨by rw [HN.out.1, HN.out.2]; rfl, rfl⟩
     ·have hc2 := hc
      unfold isD at hc2
      simp only [Bool.and_eq_true, decide_eq_true_eq] at hc2
      have d1 : decide ((s[k].toNat : Int) < 48) = false := by simp; omega
      have d2 : decide ((s[k].toNat : Int) > 57) = false := by simp; omega
      have hva : valL (s.data.toList.take (k + 1)) = 10 * V + (s[k].toNat - 48) := by rw [take_byteN s k hlt, valL_snoc, ← HV.out]
      have hal : (s.data.toList.take (k + 1)).all isD = true := by rw [take_byteN s k hlt, List.all_append, HA.out, List.all_cons, hc]; rfl
      have hbd := valL_lt _ hal
      have hlen : (s.data.toList.take (k + 1)).length = k + 1 := by rw [List.length_take, ← HLS.out]; omega
      rw [hlen] at hbd
      have hp : 10 ^ (k + 1) ≤ 10 ^ 13 := Nat.pow_le_pow_right (by omega) (by omega)
      obtain ⟨m, hm⟩ : ∃ m, 10 * V + (s[k].toNat - 48) = m := ⟨_, rfl⟩
      have q1 : IntKind.i64.wrap (10 * (V : Int)) = 10 * (V : Int) := IntWalk.i64_in _ (by omega)
      have q2 : ((s[k].toNat : Int) - 48) % 256 = (s[k].toNat : Int) - 48 := by omega
      have q3 : 10 * (V : Int) + ((s[k].toNat : Int) - 48) = (m : Int) := by omega
      rw [hm] at hva
      have hm13 : m < 10000000000000 := by omega
      have q4 : IntKind.i64.wrap (m : Int) = (m : Int) := IntWalk.i64_in _ (by omega)
      have HVA := zh hva.symm; have HAL := zh hal
      clear hc hc2 hva hal hbd hlen hp hm HPN HPY
      go_wp2_with fail
      go_roundw
      case rel => exact ⟨k + 1, m, by omega, by go_num, rfl, hm13, HVA, HAL, by first | rfl | exact trivial⟩
      case measure => simp [intOf]; omega
    ·obtain rfl : k = s.size := by omega
     have hd : decide ((s.size : Int) < (s.size : Int)) = false := by simp
     have htk : s.data.toList.take s.size = s.data.toList := List.take_of_length_le (by rw [← HLS.out]; exact Nat.le_refl _)
     have ha := HA.out; have hv := HV.out
     rw [htk] at ha hv
     by_cases hb : 1099511627776 < V
     ·have hbd : decide ((V : Int) > 1099511627776) = true := by simp; omega
      have HN := zh (HPN.out (.inr (by rw [← hv]; exact hb)))
      clear htk ha hv HPN HPY
      go_wp2_with fail
      go_ret2
      exact ⟨by rw [HN.out.1, HN.out.2]; rfl, rfl⟩
     ·have hbd : decide ((V : Int) > 1099511627776) = false := by simp; omega
      have HN := zh (HPY.out ha (by rw [← hv]; omega))
      have HV2 := zh hv
      clear htk ha hv HPN HPY
      go_wp2_with fail
      go_ret2
      exact ⟨by rw [HN.out.1, HN.out.2, ← HV2.out]; rfl, rfl⟩
theorem chkLine_zeroQ {q : List ByteArray} (h0 : q ≠ []) (h1 : q.length ≤ 120) (h2 : ∀ s ∈ q, s.size ≤ 32768) : chkLine q = 0 := by
 unfold chkLine
 rw [if_neg (fun h => h0 (List.eq_nil_of_length_eq_zero h)), if_neg]
 rintro (h | h)
 ·omega
 ·obtain ⟨s, hs, hl⟩ := List.any_eq_true.1 h
  unfold lng at hl
  have := of_decide_eq_true hl
  have := h2 s hs
  omega
theorem firstBad_zero : ∀ {L : List (List ByteArray)}, (∀ q ∈ L, chkLine q = 0) → firstBad L = 0
 | [], _ => rfl
 | l :: r, h => by
   unfold firstBad
   rw [if_pos (h l (by simp))]
   exact firstBad_zero fun q hq => h q (by simp [hq])
theorem wordL_sz (s : ByteArray) : (wordL s.data.toList).length ≤ 3 * s.size + 1 := by
 unfold wordL
 split
 ·simp
 ·have := flat_le s.data.toList
  rw [← Lib.size_eq] at this
  omega
theorem body_sz : ∀ q : List ByteArray, (body q).length ≤ 3 * (q.map ByteArray.size).sum + 2 * q.length
 | [] => by simp [body]
 | s :: q => by
   have h1 := body_sz q
   have h2 := wordL_sz s
   have e : body (s :: q) = (wordL s.data.toList ++ [32]) ++ body q := rfl
   rw [e, List.length_append, List.length_append, List.length_singleton, List.map_cons, List.sum_cons, List.length_cons]
   omega
theorem lineL_sz (q : List ByteArray) : (lineL q).length ≤ 3 * (q.map ByteArray.size).sum + 2 * q.length + 1 := by
 have h1 := body_sz q
 unfold lineL
 rw [List.length_append, List.length_dropLast, List.length_singleton]
 omega
theorem encL_sz : ∀ (L : List (List ByteArray)) (c : Nat), (∀ q ∈ L, (lineL q).length ≤ c) → (encL L).length ≤ L.length * c
 | [], c, _ => by simp [encL]
 | q :: L, c, h => by
   have h1 := encL_sz L c fun p hp => h p (by simp [hp])
   have h2 := h q (by simp)
   have e : encL (q :: L) = lineL q ++ encL L := rfl
   rw [e, List.length_append, List.length_cons, Nat.succ_mul]
   omega
theorem nmB_sz {s : ByteArray} (h : nmB s.data.toList = true) : s.size ≤ 64 := by
 unfold nmB at h
 rw [Bool.and_eq_true, decide_eq_true_eq] at h
 rw [Lib.size_eq]; exact h.1
theorem glue_sz (c : UInt8) : ∀ (ps : List ByteArray) (k : Nat), (∀ p ∈ ps, p.size ≤ k) → (glue c ps).length ≤ ps.length * (k + 1)
 | [], k, _ => by simp [glue]
 | p :: ps, k, h => by
   have h1 := glue_sz c ps k fun q hq => h q (by simp [hq])
   have h2 := h p (by simp)
   have e : glue c (p :: ps) = (p.data.toList ++ [c]) ++ glue c ps := rfl
   rw [e, List.length_append, List.length_append, List.length_singleton, ← Lib.size_eq, List.length_cons, Nat.succ_mul]
   omega
theorem scpB_sz {s : ByteArray} (h : scpB s = true) : s.size ≤ 260 := by
 unfold scpB at h
 rw [Bool.or_eq_true] at h
 rcases h with h | h
 ·have e : s.toList = [] := by simpa using h
  rw [Lib.size_eq, ← Lib.toList_data, e]; simp
 ·unfold scpK at h
  rw [Bool.and_eq_true, decide_eq_true_eq, List.all_eq_true] at h
  have h1 := glue_sz 47 (seg s) 64 fun p hp => nmB_sz (h.1 p hp)
  have h2 := split_glue 47 _ s rfl
  have h3 : glue 47 (seg s) = s.data.toList ++ [47] := h2
  rw [h3, List.length_append, List.length_singleton, ← Lib.size_eq] at h1
  have h4 := h.2
  have h5 : (seg s).length * (64 + 1) ≤ 4 * 65 := Nat.mul_le_mul h4 (Nat.le_refl _)
  omega
theorem fmtD_sz {d : List Int} (h : d.length = 32) : (fmtD d).size = 71 := by
 rw [Lib.size_eq, fmtD_list, List.length_append, hexB_length, h]
 rfl
theorem ent_sz {l : List En} (h : vldE l = true) (hok : ∀ x ∈ l, OkE x) (tag : ByteArray) (ht : tag.size ≤ 10) : (∀ q ∈ l.map (lineE tag), (q ≠ [] ∧ q.length ≤ 120 ∧ ∀ s ∈ q, s.size ≤ 32768) ∧ (lineL q).length ≤ 900) ∧ (l.map (lineE tag)).length ≤ 64 := by
 refine ⟨fun q hq => ?_, by rw [List.length_map]; exact (vldE_parts h).1⟩
 obtain ⟨x, hx, rfl⟩ := List.mem_map.1 hq
 have hp : x.p.size ≤ 200 := by
  have := (snap_of_vld h).path x hx
  unfold pathB at this
  simp only [Bool.and_eq_true, decide_eq_true_eq] at this
  exact this.1.1
 have hd := fmtD_sz (hok x hx).1
 refine ⟨⟨by unfold lineE; simp, by show 3 ≤ 120; omega, fun s hs => ?_⟩, ?_⟩
 ·unfold lineE at hs
  simp at hs
  rcases hs with rfl | rfl | rfl <;> omega
 ·refine Nat.le_trans (lineL_sz _) ?_
  have e : ((lineE tag x).map ByteArray.size).sum = tag.size + (x.p.size + ((fmtD x.d).size + 0)) := rfl
  have e2 : (lineE tag x).length = 3 := rfl
  rw [e, e2]; omega
theorem enc_valid {x : Rc} (hv : rcB x = true) (hm : ∀ e ∈ x.m, OkE e) (hp : ∀ e ∈ x.p, OkE e) : (enc (linesR x)).1 = 0 ∧ (enc (linesR x)).2 ≠ [] := by
 have hv0 := hv
 unfold rcB rcA rcT cmdB envB at hv
 simp only [Bool.and_eq_true, decide_eq_true_eq] at hv
 obtain ⟨⟨⟨hr, hs⟩, hst⟩, ⟨ht0, ht1⟩, ⟨hcn, hcl⟩, ⟨hvn, hva⟩, hvm, hvp⟩ := hv
 have s1 := nmB_sz hr
 have s2 := scpB_sz hs
 have s3 := nmB_sz hst
 have s4 : (numW x.t).size ≤ 13 := by
  have hk := (pnk_itoa x.t).1
  have hk1 : pnk (Lib.itoa x.t) = true := by rw [hk]; simp [ht0, ht1]
  rw [Lib.size_eq]
  show (Lib.itoa x.t).length ≤ 13
  by_cases hl : 13 < (Lib.itoa x.t).length
  ·have := (pnk_long hl).1; rw [this] at hk1; cases hk1
  ·omega
 have s5 : ∀ y ∈ x.c, y.size ≤ 200 := fun y hy => by
  cases hl : lng2 y with
  | true =>
    have := List.any_eq_true.2 ⟨y, hy, hl⟩
    rw [this] at hcl; simp at hcl
  | false => unfold lng2 at hl; have := of_decide_eq_false hl; omega
 have s6 : ∀ y ∈ x.v, y.n.size ≤ 64 ∧ y.v.size ≤ 200 := fun y hy => by
  obtain ⟨i, hi, e⟩ := List.getElem_of_mem hy
  unfold vAll at hva
  rw [List.all_eq_true] at hva
  have h1 := hva i (List.mem_range.2 hi)
  unfold vAt at h1
  rw [List.getElem?_eq_getElem hi, e] at h1
  simp only [Bool.and_eq_true, Bool.not_eq_true'] at h1
  refine ⟨nmB_sz h1.1.1, ?_⟩
  have := h1.1.2
  unfold lng2 at this
  have := of_decide_eq_false this
  omega
 obtain ⟨em, lm⟩ := ent_sz hvm hm matW (by decide)
 obtain ⟨ep, lp⟩ := ent_sz hvp hp prdW (by decide)
 have eh : ([recW, x.run, x.scp, x.stp, numW x.t] ≠ [] ∧ [recW, x.run, x.scp, x.stp, numW x.t].length ≤ 120 ∧ ∀ s ∈ [recW, x.run, x.scp, x.stp, numW x.t], s.size ≤ 32768) ∧ (lineL [recW, x.run, x.scp, x.stp, numW x.t]).length ≤ 2000 := by
  have hw : recW.size = 6 := rfl
  refine ⟨⟨by simp, by show 5 ≤ 120; omega, fun s hs => ?_⟩, ?_⟩
  ·simp at hs
   rcases hs with rfl | rfl | rfl | rfl | rfl <;> omega
  ·refine Nat.le_trans (lineL_sz _) ?_
   have e : ([recW, x.run, x.scp, x.stp, numW x.t].map ByteArray.size).sum = recW.size + (x.run.size + (x.scp.size + (x.stp.size + ((numW x.t).size + 0)))) := rfl
   have e2 : [recW, x.run, x.scp, x.stp, numW x.t].length = 5 := rfl
   rw [e, e2]; omega
 have sumc : ∀ l : List ByteArray, (∀ y ∈ l, y.size ≤ 200) → (l.map ByteArray.size).sum ≤ 200 * l.length := fun l => by
  induction l with
  | nil => intro _; simp
  | cons a r ih =>
    intro h
    have h1 := ih fun y hy => h y (by simp [hy])
    have h2 := h a (by simp)
    rw [List.map_cons, List.sum_cons, List.length_cons]
    omega
 have ec : ((cmdW :: x.c) ≠ [] ∧ (cmdW :: x.c).length ≤ 120 ∧ ∀ s ∈ cmdW :: x.c, s.size ≤ 32768) ∧ (lineL (cmdW :: x.c)).length ≤ 12000 := by
  have hw : cmdW.size = 7 := rfl
  refine ⟨⟨by simp, by rw [List.length_cons]; omega, fun s hs => ?_⟩, ?_⟩
  ·rcases List.mem_cons.1 hs with rfl | h
   ·omega
   ·have := s5 s h; omega
  ·refine Nat.le_trans (lineL_sz _) ?_
   have h1 := sumc x.c s5
   rw [List.map_cons, List.sum_cons, List.length_cons]
   omega
 have ee : ∀ q ∈ envR x.v, (q ≠ [] ∧ q.length ≤ 120 ∧ ∀ s ∈ q, s.size ≤ 32768) ∧ (lineL q).length ≤ 900 := fun q hq => by
  obtain ⟨y, hy, rfl⟩ := List.mem_map.1 hq
  have hy2 := s6 y hy
  have hw : envW.size = 3 := rfl
  refine ⟨⟨by simp, by show 3 ≤ 120; omega, fun s hs => ?_⟩, ?_⟩
  ·simp at hs
   rcases hs with rfl | rfl | rfl <;> omega
  ·refine Nat.le_trans (lineL_sz _) ?_
   have e : ([envW, y.n, y.v].map ByteArray.size).sum = envW.size + (y.n.size + (y.v.size + 0)) := rfl
   have e2 : [envW, y.n, y.v].length = 3 := rfl
   rw [e, e2]; omega
 have le : (envR x.v).length ≤ 16 := by unfold envR; rw [List.length_map]; exact hvn
 have hlen : (linesR x).length ≤ 1000 := by
  rw [linesR_split]
  simp only [List.length_append, List.length_singleton, List.length_nil]
  omega
 have hall : ∀ q ∈ linesR x, chkLine q = 0 := fun q hq => by
  rw [linesR_split] at hq
  simp only [List.append_nil, List.mem_append, List.mem_singleton] at hq
  rcases hq with rfl | rfl | h | h | h
  ·exact chkLine_zeroQ eh.1.1 eh.1.2.1 eh.1.2.2
  ·exact chkLine_zeroQ ec.1.1 ec.1.2.1 ec.1.2.2
  ·exact chkLine_zeroQ (ee q h).1.1 (ee q h).1.2.1 (ee q h).1.2.2
  ·exact chkLine_zeroQ (em q h).1.1 (em q h).1.2.1 (em q h).1.2.2
  ·exact chkLine_zeroQ (ep q h).1.1 (ep q h).1.2.1 (ep q h).1.2.2
 have hchk : chk (linesR x) = 0 := by
  unfold chk
  rw [if_neg (by omega)]
  exact firstBad_zero hall
 have happ : ∀ A B : List (List ByteArray), encL (A ++ B) = encL A ++ encL B := fun A B => by unfold encL; rw [List.flatMap_append]
 have hsz : (encL (linesR x)).length ≤ 262144 := by
  rw [linesR_split, happ, happ, happ, happ, happ]
  simp only [List.length_append]
  have b1 := encL_sz [[recW, x.run, x.scp, x.stp, numW x.t]] 2000 (fun q hq => by rw [List.mem_singleton.1 hq]; exact eh.2)
  have b2 := encL_sz [cmdW :: x.c] 12000 (fun q hq => by rw [List.mem_singleton.1 hq]; exact ec.2)
  have b3 := encL_sz (envR x.v) 900 (fun q hq => (ee q hq).2)
  have b4 := encL_sz (x.m.map (lineE matW)) 900 (fun q hq => (em q hq).2)
  have b5 := encL_sz (x.p.map (lineE prdW)) 900 (fun q hq => (ep q hq).2)
  have b6 : (encL ([] : List (List ByteArray))).length = 0 := rfl
  have c3 : (envR x.v).length * 900 ≤ 16 * 900 := Nat.mul_le_mul le (Nat.le_refl _)
  have c4 : (x.m.map (lineE matW)).length * 900 ≤ 64 * 900 := Nat.mul_le_mul lm (Nat.le_refl _)
  have c5 : (x.p.map (lineE prdW)).length * 900 ≤ 64 * 900 := Nat.mul_le_mul lp (Nat.le_refl _)
  simp only [List.length_singleton] at b1 b2
  omega
 unfold enc
 rw [if_pos hchk, if_neg (by omega)]
 refine ⟨rfl, fun h => ?_⟩
 have h1 : encL (linesR x) = [] := h
 rw [linesR_split, happ] at h1
 have h2 := (List.append_eq_nil_iff.1 h1).1
 have h3 : encL [[recW, x.run, x.scp, x.stp, numW x.t]] = lineL [recW, x.run, x.scp, x.stp, numW x.t] ++ [] := rfl
 rw [h3] at h2
 unfold lineL at h2
 simp at h2
theorem runsL_ok : ∀ s ∈ runsL, nmB s.data.toList = true := by decide +kernel
theorem stpsL_ok : ∀ s ∈ stpsL, nmB s.data.toList = true := by decide +kernel
theorem scpsL_ok : ∀ s ∈ scpsL, scpB s = true := by decide +kernel
theorem envs_ok : ∀ s ∈ gccL, envB [⟨ccB, s⟩, ⟨paB, xxB⟩] = true := by decide +kernel
theorem md12_valid {x : Rc} {w : World} (h : Md12 x) (hx : RcIn x w) : rcB x = true := by
 have hm := h.m.vld (by rw [hx.m.len]; have := h.mn; omega)
 have hp := h.p.vld (by rw [hx.p.len]; have := h.pn; omega)
 have hc : cmdB x.c = true := by
  unfold cmdB
  rw [Bool.and_eq_true, decide_eq_true_eq, Bool.not_eq_true', List.any_eq_false]
  refine ⟨by have := h.c.1; omega, fun y hy => ?_⟩
  have := h.c.2 y hy
  unfold lng2
  simp; omega
 have hv : envB x.v = true := by
  rcases h.v with e | ⟨s, hs, e⟩
  ·rw [e]; decide
  ·rw [e]; exact envs_ok s hs
 unfold rcB rcA rcT
 rw [runsL_ok _ h.run, scpsL_ok _ h.scp, stpsL_ok _ h.stp, hc, hv, hm, hp]
 have := h.t
 simp
 omega
theorem md12_enc {x : Rc} {w : World} (h : Md12 x) (hx : RcIn x w) : (encR x).1 = 0 ∧ (encR x).2 ≠ [] := by
 have hv := md12_valid h hx
 have := enc_valid hv hx.m.ok hx.p.ok
 unfold encR
 rw [if_pos hv]
 exact this
theorem refPlain_any (c : Int) (w : World) :
 Calls Tryz.prog 93 #[.int .u8 c] w fun e w' => e = .returned (.bool (plnB c)) ∧ w = w' := by
 by_cases h1 : 33 ≤ c
 ·by_cases h2 : c ≤ 125
  ·go_enter Tryz.func93, Tryz.ntmps93
   go_wp2
   go_ret
   exact ⟨ret_bool (by unfold plnB; rw [decide_eq_true h1, decide_eq_true h2]; rfl), rfl⟩
  ·go_enter Tryz.func93, Tryz.ntmps93
   go_wp2
   go_ret
   exact ⟨ret_bool (by unfold plnB; rw [decide_eq_false (p := c ≤ _) (by omega)]; simp), rfl⟩
 ·go_enter Tryz.func93, Tryz.ntmps93
  go_wp2
  go_ret
  exact ⟨ret_bool (by unfold plnB; rw [decide_eq_false (p := _ ≤ c) (by omega)]; simp), rfl⟩
theorem refWord_any (s : ByteArray) (w : World) (hlen : 3 * s.size + 1 ≤ 1099511627776) :
 Calls Tryz.prog 57 #[.string s] w fun e w' => e = .returned (.string ⟨(wordL s.data.toList).toArray⟩) ∧ Below w.heap.size w w' := by
 obtain ⟨i0, hi0, hz0, hz1, hz2⟩ := info_parts Tryz.info5
 have HI0 := zh hi0; have HZ0 := zh hz0; have HZ1 := zh hz1; have HZ2 := zh hz2
 clear hi0 hz0 hz1 hz2
 by_cases h0 : s.size = 0
 ·have e0 : s.toList = [] := by rw [Lib.toList_data]; exact List.eq_nil_of_length_eq_zero (by rw [← Lib.size_eq]; exact h0)
  have HW := zh (show wordL s.data.toList = [126] by rw [← Lib.toList_data, e0]; rfl)
  generalize wordL s.data.toList = wl at *
  clear h0
  go_enter Tryz.func57, Tryz.ntmps57
  go_wp2_with fail
  go_ret
  exact ⟨by rw [HW.out]; rfl, Below.refl _ _⟩
 ·have e0 : s.toList.isEmpty = false := by
   rw [Lib.toList_data, List.isEmpty_eq_false_iff]
   intro h; rw [Lib.size_eq, h] at h0; simp at h0
  have HW := zh (show wordL s.data.toList = (s.data.toList.take s.size).flatMap encB by
   unfold wordL; rw [take_all_data, if_neg (by intro h; rw [Lib.size_eq, h] at h0; simp at h0)])
  generalize wordL s.data.toList = wl at *
  clear h0
  go_enter Tryz.func57, Tryz.ntmps57
  go_wp2_with fail
  go_loopw [4, 5] (fun b i wr => ∃ k : Nat, k ≤ s.size ∧ i = .int .i64 k ∧ Hid (wr.ownsRow w.heap.size 5 1 b ((s.data.toList.take k).flatMap encB).length (Lib.byteCells ((s.data.toList.take k).flatMap encB))) ∧ Below w.heap.size w wr) (fun _ i _ => s.size - (intOf i).toNat)
  case atStart => exact ⟨0, by omega, rfl, World.ownsRow_nil _ _ _ _, Below.refl _ _⟩
  case round =>
   obtain ⟨k, hk, rfl, hown, hbe⟩ := hrel
   by_cases hlt : k < s.size
   ·have HS := zh (flat_succ s k hlt)
    have hle := flat_le (s.data.toList.take k)
    have hle2 : (s.data.toList.take k).length ≤ k := List.length_take_le _ _
    have hbs := hbe.size
    generalize (s.data.toList.take k).flatMap encB = fl at *
    cases hp : plnB (s[k].toNat)
    ·have HK := zh (encB_esc hp)
     have HP := zh hp; clear hp
     have hc256 : s[k].toNat < 256 := UInt8.toNat_lt _
     have hx1 := hex_index (s[k].toNat / 16) (by omega)
     have hx2 := hex_index (s[k].toNat % 16) (by omega)
     rw [show ((s[k].toNat / 16 : Nat) : Int) = (s[k].toNat : Int) / 16 by omega] at hx1
     rw [show ((s[k].toNat % 16 : Nat) : Int) = (s[k].toNat : Int) % 16 by omega] at hx2
     have hand := and15 s[k]
     have hk0 : (0 : Int) ≤ (k : Int) := by omega
     have hk1 : (k : Int) < (s.size : Int) := by omega
     go_wp2_with (go_at_call 93; refine (refPlain_any _ _).mono ?_; rintro e w' ⟨rfl, rfl⟩; rw [HP.out])
     go_region_held3 (fun _ => True) (trivial) ((refine step_append_own rfl (.tmp 24) (.tmp 37) 22 (by rfl) w.heap.size 5 i0 (.int .u8 0) 1 1 Tryz.underlying22 HI0.out HZ0.out HZ1.out HZ2.out rfl (by decide) _ _ _ (by rfl) (by exact (hown.out.alloc _).drew) ⟨wr.heap.size, 0, none⟩ 3 3 (Lib.byteCells [37, hexU (s[k].toNat / 16), hexU (s[k].toNat % 16)]) (by rfl) (by rfl) (by exact cells_newD _ _ _) (Lib.byteCells_one _) (by unfold maxLen; omega) (by omega) (by simp; omega) ?_; intro v' w1 hown1 hg1 _; have HO1 := zh hown1; clear hown1))
     all_goals
      go_wp2
      go_roundw
      case rel =>
       refine ⟨k + 1, by omega, by go_num, ?_, ?_⟩
       ·rw [HS.out, HK.out]
        have := HO1.out
        show World.ownsRow _ _ _ _ _ _ _
        simpa [Lib.byteCells_append, Lib.byteCells, Nat.add_assoc] using this
       ·exact ((hbe.alloc hbs _).drew).grown hg1 (by simp; omega) (own_base hown.out)
      case measure => simp [intOf]; omega
    ·have HK := zh (encB_plain hp)
     have HP := zh hp; clear hp
     go_wp2_with (first
      | (go_at_call 93; refine (refPlain_any _ _).mono ?_; rintro e w' ⟨rfl, rfl⟩; rw [HP.out])
      | (at_builtin; refine wpList_append_own _ rfl (.tmp 18) (.tmp 22) 22 rfl w.heap.size 5 i0 (.int .u8 0) 1 1 Tryz.underlying22 HI0.out HZ0.out HZ1.out HZ2.out rfl (by decide) _ _ _ rfl (hown.out.alloc _) ⟨wr.heap.size, 0, none⟩ 1 1 [.int .u8 (s[k].toNat : Int)] rfl rfl (cell_one_new _ _ _) (by intro u hu; simp at hu; subst hu; rfl) (by unfold maxLen; omega) (by omega) (by simp; omega) ?_; intro v' w1 hown1 hg1 _; have HO1 := zh hown1; clear hown1))
     go_roundw
     case rel =>
      refine ⟨k + 1, by omega, by go_num, ?_, ?_⟩
      ·rw [HS.out, HK.out]
       have := HO1.out
       show World.ownsRow _ _ _ _ _ _ _
       simpa [Lib.byteCells_append, Lib.byteCells, Nat.add_assoc] using this
      ·exact (hbe.alloc hbs _).grown hg1 (by simp; omega) (own_base hown.out)
     case measure => simp [intOf]; omega
   ·obtain rfl : k = s.size := by omega
    have hcv := run_string_own hown.out
    rw [← HW.out] at hcv
    go_wp2
    go_ret
    exact ⟨rfl, hbe⟩
end Go.Proofs.YtecllfbadciaoaaGreatDoor
