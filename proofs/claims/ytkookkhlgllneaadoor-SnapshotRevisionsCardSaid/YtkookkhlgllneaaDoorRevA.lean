/-
  The walks of snapshot.Revision and of the reference's Revision (conditions: the table of constants reads as it is laid; digests of 32 bytes).
-/
import Derived.Test.YtkookkhlgllneaaDoorRevM
import Derived.Test.YtkookkhlgllneaaDoorGk
import Derived.Test.YtkookkhlgllneaaDoorGg
import Derived.Test.YtkookkhlgllneaaDoorGh
import Derived.Test.YtkookkhlgllneaaDoorGd
import Derived.Test.YtkookkhlgllneaaDoorGe
namespace Go.Proofs.YtkookkhlgllneaaDoor
open Go.RowKit

def bi (l : List UInt8) : List Int := l.map fun u => (u.toNat : Int)
theorem bi_cells (l : List UInt8) : (bi l).map (Value.int .u8) = Lib.byteCells l := by
  unfold bi Lib.byteCells
  rw [List.map_map]
  rfl
theorem bi_length (l : List UInt8) : (bi l).length = l.length := by simp [bi]
theorem bi_byt (l : List UInt8) : Byt (bi l) := by
  intro x hx
  obtain ⟨u, _, rfl⟩ := List.mem_map.1 hx
  have := u.toNat_lt
  omega
/-- the bytes of the digest of l -/
def shaD (l : List Int) : List Int := dbytes (sha l).list
theorem shaD_len (l : List Int) : (shaD l).length = 32 := by simp [shaD, dbytes_length, St.list_length]
theorem wb_bytR (x : Int) : ∀ y ∈ wb x, 0 ≤ y ∧ y < 256 := fun y hy => by
  simp only [wb, List.mem_cons, List.not_mem_nil, or_false] at hy
  rcases hy with rfl | rfl | rfl | rfl <;> omega
theorem dbytes_bytR : ∀ l : List Int, ∀ y ∈ dbytes l, 0 ≤ y ∧ y < 256
  | [] => fun x hx => by simp [dbytes] at hx
  | y :: r => fun x hx => (List.mem_append.1 hx).elim (wb_bytR y x) (dbytes_bytR r x)
theorem shaD_byt (l : List Int) : ∀ x ∈ shaD l, 0 ≤ x ∧ x < 256 := fun x hx => dbytes_bytR _ x hx
/-- the revision of a snapshot -/
def rvD (s : List En) : List Int := if vldE s = true then shaD (bi (encL (s.map (lineE tagF)))) else zed
theorem rvD_len (s : List En) : (rvD s).length = 32 := by
  unfold rvD; split
  · exact shaD_len _
  · rfl
theorem eql_rvD (s : List En) (w : World) : (binOp .eql 28 (.agg ((rvD s).map (Value.int .u8)).toArray) (.agg ((rvD s).map (Value.int .u8)).toArray)).run Tryd.prog w = .ok (.bool true) w := by
  have := eql_digest _ _ (rvD_len s) (rvD_len s) w
  simpa using this
theorem vldE_small {s : List En} (h : vldE s = true) (hd : ∀ x ∈ s, OkE x) : ∀ x ∈ s, x.p.size ≤ 200 ∧ x.d.length = 32 := by
  intro x hx
  refine ⟨?_, (hd x hx).1⟩
  unfold vldE at h
  rw [Bool.and_eq_true, Bool.and_eq_true] at h
  have h1 : s.any badE = false := by simpa using h.1.2
  have h2 := List.any_eq_false.1 h1 x hx
  unfold badE at h2
  simp only [Bool.or_eq_true, not_or, Bool.not_eq_true', Bool.not_eq_false] at h2
  have h3 := h2.2
  unfold pathB at h3
  rw [Bool.and_eq_true, Bool.and_eq_true] at h3
  exact of_decide_eq_true h3.1.1
/-- what document.Encode answers for a snapshot's lines -/
theorem encRes_snap {w w' : World} {ls : List Ln} {s : List En} {e : Ending} (hw : wordsOf ls = s.map (lineE tagF)) (hs : ∀ x ∈ s, x.p.size ≤ 200 ∧ x.d.length = 32) (hl : s.length ≤ 64) (h : EncRes w (wordsOf ls) e w') :
    ∃ sp cap, e = .returned (.tuple #[.slice sp (encL (s.map (lineE tagF))).length cap, .int .i64 0]) ∧ Src w' w'.heap.size sp (encL (s.map (lineE tagF))).length cap (bi (encL (s.map (lineE tagF)))) ∧ (sp = none → cap = 0) ∧ Below w.heap.size w w' := by
  obtain ⟨v, he, ho, hb⟩ := h
  rw [hw, enc_snap hs hl] at he ho
  have ho1 : w'.ownsRow w.heap.size 5 1 v (bi (encL (s.map (lineE tagF)))).length ((bi (encL (s.map (lineE tagF)))).map (Value.int .u8)) := by
    rw [bi_cells, bi_length]; exact ho.out
  obtain ⟨sp, cap, rfl, hsrc, hnil⟩ := src_of_own ho1 (bi_byt _)
  rw [bi_length] at hsrc he
  exact ⟨sp, cap, he, hsrc, hnil, hb⟩
theorem lines_lt {tag : ByteArray} {l : List En} {w : World} {B np : Nat} {pa : Option Addr} {ls : List Ln} (hL : LinesIn w B pa np ls) (h : wordsOf ls = l.map (lineE tag)) : ∀ q ∈ ls, q.n ≤ 9223372036854775807 := by
  intro q hq
  have h1 : q.l ∈ wordsOf ls := List.mem_map.2 ⟨q, hq, rfl⟩
  rw [h] at h1
  obtain ⟨x, hx, hxq⟩ := List.mem_map.1 h1
  have h2 := (hL.each q hq).len
  rw [← hxq] at h2
  have : (lineE tag x).length = 3 := rfl
  omega
theorem rvD_bad {s : List En} (h : vldE s = false) : rvD s = zed := by unfold rvD; rw [if_neg (by rw [h]; simp)]
theorem rvD_good {s : List En} (h : vldE s = true) : rvD s = shaD (bi (encL (s.map (lineE tagF)))) := by unfold rvD; rw [if_pos h]
set_option maxRecDepth 100000 in
set_option maxHeartbeats 1000000 in
theorem Revision_any (sp : Option Addr) (n cap : Nat) (l : List En) (w : World) (hl : EnsIn w w.heap.size sp n cap l) (hn : n ≤ 1000) (hk : KayIn w) (hk0 : 1 < w.heap.size) :
    Calls Tryd.prog 39 #[.slice sp n cap] w fun e w' => e = .returned (.agg ((rvD l).map (Value.int .u8)).toArray) ∧ Below w.heap.size w w' := by
  have HL := Lib.hid hl; have HK := Lib.hid hk; have HK0 := Lib.hid hk0; clear hl hk hk0
  have hv := fun w1 (h : EnsIn w1 w1.heap.size sp n cap l) => Valid_any sp n cap l w1 h (by omega)
  cases hval : vldE l
  · rw [hval] at hv
    have HV := Lib.hid hv; clear hv
    rw [rvD_bad hval]
    have HV32 := Lib.hid D32.zed
    have HI : Hid ((Tryd.prog.info? 28).map (·.size) = some (zed.map (Value.int .u8)).toArray.size) := by show _ = _; rw [List.size_toArray]; exact info_d HV32.out
    have HIs : Hid (32 = (zed.map (Value.int .u8)).toArray.size) := by show _ = _; rw [List.size_toArray]; simpa using (show 32 = zed.length from HV32.out.1.symm)
    clear hval
    go_enter Tryd.func39, Tryd.ntmps39
    go_wp2_with fail
    generalize hw0 : World.alloc w _ = w0
    have hr0 : w0.heap[w.heap.size]? = some (.cells (Array.replicate 32 (Value.int .u8 0)) 28 (0, 0)) := by rw [← hw0]; exact heap_alloc_new _ _
    have hb0 : Below w.heap.size w w0 := by rw [← hw0]; exact (Below.refl _ _).alloc (Nat.le_refl _) _
    have HR0 := Lib.hid hr0; have HB0 := Lib.hid hb0
    have hlt0 := (Array.getElem?_eq_some_iff.1 hr0).1
    clear hw0 hr0 hb0
    refine (HV.out w0 (HL.out.up HB0.out (Nat.le_refl _))).mono ?_
    rintro e w1 ⟨rfl, hb1⟩
    have HR := Lib.hid ((hb1.block w.heap.size hlt0).trans HR0.out)
    have HB := Lib.hid (HB0.out.trans (hb1.mono HB0.out.size)); clear hb1
    go_wp2_with (refine wpList_store_row rfl 28 _ _ rfl w.heap.size (zed.map (Value.int .u8)).toArray rfl (by rfl) 28 _ HR.out HI.out ((rfl : ((Array.replicate 32 (Value.int .u8 0))).size = 32).trans HIs.out) (dgA_one _) ?_; have hr2 := setRow_heap _ _ _ (zed.map (Value.int .u8)).toArray _ _ HR.out; have hb2 := below_setRow HB.out (Nat.le_refl w.heap.size) (zed.map (Value.int .u8)).toArray; generalize World.setRow _ _ _ = w9 at hr2 hb2 ⊢; have HR9 := Lib.hid hr2; have HB9 := Lib.hid hb2; clear hr2 hb2)
    refine bodyPost_ret (results_cell_row (P := Tryd.prog) rfl _ _ w.heap.size 28 _ (0, 0) _ rfl HR9.out Tryd.underlying28 rfl HI.out) rfl ⟨rfl, HB9.out⟩
  · rw [hval] at hv
    have HV := Lib.hid hv; clear hv
    rw [rvD_good hval]
    have HSM := Lib.hid (vldE_small hval HL.out.ok)
    have h64 : l.length ≤ 64 := (vldE_parts hval).1
    have hnl : l.length = n := HL.out.len
    have HSZ := Lib.hid (encL_le1806 (s := l) HSM.out)
    have HLI := Lib.hid (fun w1 (h : EnsIn w1 w1.heap.size sp n cap l) => Lines_any tagF sp n cap l w1 h (by omega))
    have HEN := Lib.hid (fun (w1 : World) (pb : Option Addr) (cb : Nat) (lb : List Ln) (hb : LinesIn w1 w1.heap.size pb n lb) (hw : wordsOf lb = l.map (lineE tagF)) => (Encode_any pb n cb lb w1 hb (by omega) (lines_lt hb hw)).mono fun e w' h => encRes_snap hw HSM.out h64 h)
    have hlen := HSZ.out
    generalize encL (l.map (lineE tagF)) = E at *
    obtain ⟨m, hm⟩ : ∃ m, E.length = m := ⟨_, rfl⟩
    rw [hm] at HEN hlen
    have HV32 : Hid (D32 (shaD (bi E))) := ⟨shaD_len _, shaD_byt _⟩
    have HI : Hid ((Tryd.prog.info? 28).map (·.size) = some ((shaD (bi E)).map (Value.int .u8)).toArray.size) := by show _ = _; rw [List.size_toArray]; exact info_d HV32.out
    have HIs : Hid (32 = ((shaD (bi E)).map (Value.int .u8)).toArray.size) := by show _ = _; rw [List.size_toArray]; simpa using (show 32 = (shaD (bi E)).length from HV32.out.1.symm)
    have hdg : ∀ (w w' : World) (e : Ending), SumRes w (bi E) e w' → e = .returned (.agg ((shaD (bi E)).map (Value.int .u8)).toArray) ∧ Below w.heap.size w w' := fun w w' e h => h
    have HDG := Lib.hid hdg
    have HM := Lib.hid hm; clear hm HSZ hval hnl hdg
    go_enter Tryd.func39, Tryd.ntmps39
    go_wp2_with fail
    generalize hw0 : World.alloc w _ = w0
    have hr0 : w0.heap[w.heap.size]? = some (.cells (Array.replicate 32 (Value.int .u8 0)) 28 (0, 0)) := by rw [← hw0]; exact heap_alloc_new _ _
    have hb0 : Below w.heap.size w w0 := by rw [← hw0]; exact (Below.refl _ _).alloc (Nat.le_refl _) _
    have HR0 := Lib.hid hr0; have HB0 := Lib.hid hb0
    have HLT0 := Lib.hid (Array.getElem?_eq_some_iff.1 hr0).1
    clear hw0 hr0 hb0
    refine (HV.out w0 (HL.out.up HB0.out (Nat.le_refl _))).mono ?_
    rintro e w1 ⟨rfl, hb1⟩
    have HB01 := Lib.hid (show Below w0.heap.size w0 w1 from hb1)
    have HB1 := Lib.hid (HB0.out.trans (hb1.mono HB0.out.size)); clear hb1
    go_wp2_with fail
    refine (HLI.out w1 (HL.out.up HB1.out (Nat.le_refl _))).mono ?_
    rintro e w2 ⟨sp2, cp2, l2, rfl, hl2, hw2, ho2, hb2⟩
    have HB02 := Lib.hid (HB01.out.trans (hb2.mono HB01.out.size))
    have HW2 := Lib.hid hw2; have HL2 := Lib.hid (ho2.lines hl2); have HB2 := Lib.hid (HB1.out.trans (hb2.mono HB1.out.size)); clear hl2 hw2 ho2 hb2
    go_wp2_with fail
    refine (HEN.out w2 sp2 cp2 l2 HL2.out HW2.out).mono ?_
    rintro e w3 ⟨sp3, cp3, rfl, hs3, hnil3, hb3⟩
    have HB03 := Lib.hid (HB02.out.trans (hb3.mono HB02.out.size))
    have HS3 := Lib.hid hs3; have HB3 := Lib.hid (HB2.out.trans (hb3.mono HB2.out.size))
    have hsum := Sum_any sp3 m cp3 (bi E) w3 HS3.out (HK.out.below HB3.out HK0.out) (by have := HB3.out.size; have := HK0.out; omega) (by omega)
    have HSUM := Lib.hid hsum; clear hsum hs3 hnil3 hb3
    go_wp2_with fail
    refine HSUM.out.mono ?_
    intro e w4 hres
    obtain ⟨rfl, hb4⟩ := HDG.out w3 w4 e hres
    have HB04 := Lib.hid (HB03.out.trans (hb4.mono HB03.out.size))
    have HB := Lib.hid (HB3.out.trans (hb4.mono HB3.out.size)); clear hb4 hres
    have HR := Lib.hid ((HB04.out.block w.heap.size HLT0.out).trans HR0.out)
    go_wp2_with (refine wpList_store_row rfl 28 _ _ rfl w.heap.size ((shaD (bi E)).map (Value.int .u8)).toArray rfl (by rfl) 28 _ HR.out HI.out ((rfl : ((Array.replicate 32 (Value.int .u8 0))).size = 32).trans HIs.out) (dgA_one _) ?_; have hr2 := setRow_heap _ _ _ ((shaD (bi E)).map (Value.int .u8)).toArray _ _ HR.out; have hb2 := below_setRow HB.out (Nat.le_refl w.heap.size) ((shaD (bi E)).map (Value.int .u8)).toArray; generalize World.setRow _ _ _ = w9 at hr2 hb2 ⊢; have HR9 := Lib.hid hr2; have HB9 := Lib.hid hb2; clear hr2 hb2)
    refine bodyPost_ret (results_cell_row (P := Tryd.prog) rfl _ _ w.heap.size 28 _ (0, 0) _ rfl HR9.out Tryd.underlying28 rfl HI.out) rfl ⟨rfl, HB9.out⟩
set_option maxRecDepth 100000 in
set_option maxHeartbeats 1000000 in
theorem refRevision_any (sp : Option Addr) (n cap : Nat) (l : List En) (w : World) (hl : EnsIn w w.heap.size sp n cap l) (hn : n ≤ 1000) :
    Calls Tryd.prog 40 #[.slice sp n cap] w fun e w' => e = .returned (.agg ((rvD l).map (Value.int .u8)).toArray) ∧ Below w.heap.size w w' := by
  have HL := Lib.hid hl; clear hl
  have hv := fun w1 (h : EnsIn w1 w1.heap.size sp n cap l) => refValid_any sp n cap l w1 h (by omega)
  cases hval : vldE l
  · rw [hval] at hv
    have HV := Lib.hid hv; clear hv
    rw [rvD_bad hval]
    have HV32 := Lib.hid D32.zed
    have HI : Hid ((Tryd.prog.info? 28).map (·.size) = some (zed.map (Value.int .u8)).toArray.size) := by show _ = _; rw [List.size_toArray]; exact info_d HV32.out
    have HIs : Hid (32 = (zed.map (Value.int .u8)).toArray.size) := by show _ = _; rw [List.size_toArray]; simpa using (show 32 = zed.length from HV32.out.1.symm)
    clear hval
    go_enter Tryd.func40, Tryd.ntmps40
    go_wp2_with fail
    generalize hw0 : World.alloc w _ = w0
    have hr0 : w0.heap[w.heap.size]? = some (.cells (Array.replicate 32 (Value.int .u8 0)) 28 (0, 0)) := by rw [← hw0]; exact heap_alloc_new _ _
    have hb0 : Below w.heap.size w w0 := by rw [← hw0]; exact (Below.refl _ _).alloc (Nat.le_refl _) _
    have HR0 := Lib.hid hr0; have HB0 := Lib.hid hb0
    have hlt0 := (Array.getElem?_eq_some_iff.1 hr0).1
    clear hw0 hr0 hb0
    refine (HV.out w0 (HL.out.up HB0.out (Nat.le_refl _))).mono ?_
    rintro e w1 ⟨rfl, hb1⟩
    have HR := Lib.hid ((hb1.block w.heap.size hlt0).trans HR0.out)
    have HB := Lib.hid (HB0.out.trans (hb1.mono HB0.out.size)); clear hb1
    go_wp2_with (refine wpList_store_row rfl 28 _ _ rfl w.heap.size (zed.map (Value.int .u8)).toArray rfl (by rfl) 28 _ HR.out HI.out ((rfl : ((Array.replicate 32 (Value.int .u8 0))).size = 32).trans HIs.out) (dgA_one _) ?_; have hr2 := setRow_heap _ _ _ (zed.map (Value.int .u8)).toArray _ _ HR.out; have hb2 := below_setRow HB.out (Nat.le_refl w.heap.size) (zed.map (Value.int .u8)).toArray; generalize World.setRow _ _ _ = w9 at hr2 hb2 ⊢; have HR9 := Lib.hid hr2; have HB9 := Lib.hid hb2; clear hr2 hb2)
    refine bodyPost_ret (results_cell_row (P := Tryd.prog) rfl _ _ w.heap.size 28 _ (0, 0) _ rfl HR9.out Tryd.underlying28 rfl HI.out) rfl ⟨rfl, HB9.out⟩
  · rw [hval] at hv
    have HV := Lib.hid hv; clear hv
    rw [rvD_good hval]
    have HSM := Lib.hid (vldE_small hval HL.out.ok)
    have h64 : l.length ≤ 64 := (vldE_parts hval).1
    have hnl : l.length = n := HL.out.len
    have HSZ := Lib.hid (encL_le1806 (s := l) HSM.out)
    have HLI := Lib.hid (fun w1 (h : EnsIn w1 w1.heap.size sp n cap l) => refLines_any tagF sp n cap l w1 h (by omega))
    have HEN := Lib.hid (fun (w1 : World) (pb : Option Addr) (cb : Nat) (lb : List Ln) (hb : LinesIn w1 w1.heap.size pb n lb) (hw : wordsOf lb = l.map (lineE tagF)) => (refEncode_any pb n cb lb w1 hb (by omega) (lines_lt hb hw)).mono fun e w' h => encRes_snap hw HSM.out h64 h)
    have hlen := HSZ.out
    generalize encL (l.map (lineE tagF)) = E at *
    obtain ⟨m, hm⟩ : ∃ m, E.length = m := ⟨_, rfl⟩
    rw [hm] at HEN hlen
    have HV32 : Hid (D32 (shaD (bi E))) := ⟨shaD_len _, shaD_byt _⟩
    have HI : Hid ((Tryd.prog.info? 28).map (·.size) = some ((shaD (bi E)).map (Value.int .u8)).toArray.size) := by show _ = _; rw [List.size_toArray]; exact info_d HV32.out
    have HIs : Hid (32 = ((shaD (bi E)).map (Value.int .u8)).toArray.size) := by show _ = _; rw [List.size_toArray]; simpa using (show 32 = (shaD (bi E)).length from HV32.out.1.symm)
    have hdg : ∀ (w w' : World) (e : Ending), SumRes w (bi E) e w' → e = .returned (.agg ((shaD (bi E)).map (Value.int .u8)).toArray) ∧ Below w.heap.size w w' := fun w w' e h => h
    have HDG := Lib.hid hdg
    have HM := Lib.hid hm; clear hm HSZ hval hnl hdg
    go_enter Tryd.func40, Tryd.ntmps40
    go_wp2_with fail
    generalize hw0 : World.alloc w _ = w0
    have hr0 : w0.heap[w.heap.size]? = some (.cells (Array.replicate 32 (Value.int .u8 0)) 28 (0, 0)) := by rw [← hw0]; exact heap_alloc_new _ _
    have hb0 : Below w.heap.size w w0 := by rw [← hw0]; exact (Below.refl _ _).alloc (Nat.le_refl _) _
    have HR0 := Lib.hid hr0; have HB0 := Lib.hid hb0
    have HLT0 := Lib.hid (Array.getElem?_eq_some_iff.1 hr0).1
    clear hw0 hr0 hb0
    refine (HV.out w0 (HL.out.up HB0.out (Nat.le_refl _))).mono ?_
    rintro e w1 ⟨rfl, hb1⟩
    have HB01 := Lib.hid (show Below w0.heap.size w0 w1 from hb1)
    have HB1 := Lib.hid (HB0.out.trans (hb1.mono HB0.out.size)); clear hb1
    go_wp2_with fail
    refine (HLI.out w1 (HL.out.up HB1.out (Nat.le_refl _))).mono ?_
    rintro e w2 ⟨sp2, cp2, l2, rfl, hl2, hw2, ho2, hb2⟩
    have HB02 := Lib.hid (HB01.out.trans (hb2.mono HB01.out.size))
    have HW2 := Lib.hid hw2; have HL2 := Lib.hid (ho2.lines hl2); have HB2 := Lib.hid (HB1.out.trans (hb2.mono HB1.out.size)); clear hl2 hw2 ho2 hb2
    go_wp2_with fail
    refine (HEN.out w2 sp2 cp2 l2 HL2.out HW2.out).mono ?_
    rintro e w3 ⟨sp3, cp3, rfl, hs3, hnil3, hb3⟩
    have HB03 := Lib.hid (HB02.out.trans (hb3.mono HB02.out.size))
    have HS3 := Lib.hid hs3; have HB3 := Lib.hid (HB2.out.trans (hb3.mono HB2.out.size))
    have hsum := refSum_any sp3 m cp3 (bi E) w3 HS3.out hnil3 (by omega)
    have HSUM := Lib.hid hsum; clear hsum hs3 hnil3 hb3
    go_wp2_with fail
    refine HSUM.out.mono ?_
    intro e w4 hres
    obtain ⟨rfl, hb4⟩ := HDG.out w3 w4 e hres
    have HB04 := Lib.hid (HB03.out.trans (hb4.mono HB03.out.size))
    have HB := Lib.hid (HB3.out.trans (hb4.mono HB3.out.size)); clear hb4 hres
    have HR := Lib.hid ((HB04.out.block w.heap.size HLT0.out).trans HR0.out)
    go_wp2_with (refine wpList_store_row rfl 28 _ _ rfl w.heap.size ((shaD (bi E)).map (Value.int .u8)).toArray rfl (by rfl) 28 _ HR.out HI.out ((rfl : ((Array.replicate 32 (Value.int .u8 0))).size = 32).trans HIs.out) (dgA_one _) ?_; have hr2 := setRow_heap _ _ _ ((shaD (bi E)).map (Value.int .u8)).toArray _ _ HR.out; have hb2 := below_setRow HB.out (Nat.le_refl w.heap.size) ((shaD (bi E)).map (Value.int .u8)).toArray; generalize World.setRow _ _ _ = w9 at hr2 hb2 ⊢; have HR9 := Lib.hid hr2; have HB9 := Lib.hid hb2; clear hr2 hb2)
    refine bodyPost_ret (results_cell_row (P := Tryd.prog) rfl _ _ w.heap.size 28 _ (0, 0) _ rfl HR9.out Tryd.underlying28 rfl HI.out) rfl ⟨rfl, HB9.out⟩
end Go.Proofs.YtkookkhlgllneaaDoor
