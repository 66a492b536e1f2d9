/-
  The walk of snapshot.Read (conditions: at most 100000 lines; no string is longer than an int).
-/
import Derived.Test.YtecllfbadciaoaaGreatDoorZip
import Derived.Test.YtecllfbadciaoaaGreatDoorQ16
set_option maxRecDepth 100000
set_option maxHeartbeats 8000000
namespace Go.Proofs.YtecllfbadciaoaaGreatDoor
open Go.RowKit
def DgB (w : World) (b : Nat) (d : List Int) : Prop := w.heap[b]? = some (.cells (d.map (Value.int .u8)).toArray 80 (0, 0))
theorem DgB.all {w : World} {b : Nat} {d : List Int} (h : DgB w b d) : w.rangeAt b 0 (d.map (Value.int .u8)) := range_row (pre := []) (post := []) h (by simp) rfl
theorem DgB.belowL {w w' : World} {b : Nat} {d : List Int} (h : DgB w b d) (hb : Below w.heap.size w w') : DgB w' b d := (hb.block b (Array.getElem?_eq_some_iff.1 h).1).trans h
theorem DgB.keptL {w w' : World} {b base n sz : Nat} {d : List Int} {v : Value} {xs : List Value} (h : DgB w b d) (ho : w.ownsRow base 82 sz v n xs) (hg : w.grownBy w' v.ownBlock) : DgB w' b d := by
 refine (hg.block b (Array.getElem?_eq_some_iff.1 h).1 (fun e => ?_)).trans h
 obtain ⟨_, ⟨rfl, _⟩ | ⟨g, c, u, rfl, _, gh, _⟩⟩ := ho
 ·simp [Value.ownBlock] at e
 ·have e' : b = g := by simpa [Value.ownBlock] using e
  subst e'
  unfold DgB at h
  rw [gh] at h
  injection h with h
  injection h with _ h _
  exact absurd h (by decide)
theorem Read_any (tag : ByteArray) (pa : Option Addr) (np ncap : Nat) (ls : List Ln) (w : World) (hp : LinesIn w w.heap.size pa np ls) (hn : np ≤ 100000) (hmax2 : ∀ q ∈ ls, q.n ≤ 9223372036854775807) (hsz : ∀ q ∈ ls, ∀ t p f, q.l = [t, p, f] → f.size ≤ 9223372036854775807) :
 Calls Tryz.prog 104 #[.string tag, .slice pa np ncap] w (ResE w (readL tag (wordsOf ls))) := by
 have HP := zh hp; have HM2 := zh hmax2; have HSZ0 := zh hsz
 clear hp hmax2 hsz
 obtain ⟨i0, hi0, hz0, hz1, hz2⟩ := info_parts infoE3
 go_enter Tryz.func104, Tryz.ntmps104
 go_wp2_with (refine wpList_make_own w rfl _ _ 29 rfl w.heap.size 82 i0 _ 33 Tryz.underlying29 hi0 hz0 hz1 .i64 .i64 (np : Int) np rfl rfl rfl (by rw [hz2]; omega) (by unfold maxLen; omega) (Nat.le_refl _) ?_; intro w1 hown1 hg1)
 have HB1 := zh ((Below.refl w.heap.size w).grown hg1 (Nat.le_refl _) (fun k e => by cases e))
 have HO1 := zh hown1
 clear hg1 hown1 hi0 hz0 hz1 hz2
 go_loopw [6, 16] (fun v i wr => ∃ (k : Nat) (done : List En) (sp' : Option Addr) (cap' : Nat), k ≤ np ∧ i = .int .i64 k ∧ v = .slice sp' k cap' ∧ Hid (k = done.length) ∧ Hid (rawL tag (wordsOf ls) = (rawL tag ((wordsOf ls).drop k)).map (done ++ ·)) ∧ Hid (OwnE wr w.heap.size (.slice sp' k cap') done) ∧ Hid (Below w.heap.size w wr)) (fun _ i _ => np - (intOf i).toNat)
 case atStart => exact ⟨0, [], _, _, Nat.zero_le _, rfl, rfl, rfl, by show _ = _; simp, ⟨HO1.out, by simp⟩, HB1.out⟩
 case round =>
  obtain ⟨k, done, sp', cap', hk, rfl, rfl, HKL, HRD, hown, hbe⟩ := hrel
  have hbs := hbe.out.size
  by_cases hlt : k < np
  ·have hd : decide ((k : Int) < (np : Int)) = true := by simp; omega
   have hkl : k < ls.length := by rw [HP.out.len]; exact hlt
   obtain ⟨pb, po, rfl, hpb, hpc⟩ := HP.out.cells (by omega)
   obtain ⟨q, hq⟩ : ∃ q, ls[k]'hkl = q := ⟨_, rfl⟩
   have hmem : q ∈ ls := by rw [← hq]; exact List.getElem_mem hkl
   have hLC := fun W (hb : Below w.heap.size w W) => (hb.cell (p := ⟨pb, po + k, none⟩) hpb).trans (hpc k hkl)
   rw [hq] at hLC
   have hstr := HP.out.each q hmem
   have hsz := HSZ0.out q hmem
   have hln : (wordsOf ls)[k]? = some q.l := by rw [wordsOf_get? ls k hkl, hq]
   have HSTOP : Hid (rawL tag (wordsOf ls) = (rawL tag ((wordsOf ls).drop k)).map (done ++ ·) → rawL tag (wordsOf ls) = none) ∨ Hid (∃ x, rd1 tag q.l = some x) := by
    cases hr : rd1 tag q.l with
    | none => exact .inl (fun h => rawL_stop h hln hr)
    | some x => exact .inr ⟨x, rfl⟩
   have hstop : rd1 tag q.l = none → Hid (rawL tag (wordsOf ls) = (rawL tag ((wordsOf ls).drop k)).map (done ++ ·) → rawL tag (wordsOf ls) = none) := fun hr h => rawL_stop h hln hr
   have hstep : ∀ x, rd1 tag q.l = some x → Hid (rawL tag (wordsOf ls) = (rawL tag ((wordsOf ls).drop (k + 1))).map ((done ++ [x]) ++ ·)) := fun x hr => rawL_step HRD.out hln hr
   clear HSTOP
   obtain ⟨qsp, qn, qcap, ql⟩ := q
   have hl1 : wr.cell? ⟨pb, po + k, none⟩ = some (.slice qsp qn qcap) := hLC wr hbe.out
   have hmx : qn ≤ 9223372036854775807 := HM2.out _ hmem
   have p1 : (0 : Int) ≤ (k : Int) := by omega
   have p2 : (k : Int) < (np : Int) := by omega
   simp only at hstr hsz hstop hstep
   have hqn := hstr.len
   clear hq hmem hpc hln
   by_cases h3 : qn = 3
   case neg =>
    have e1 : ((qn : Int) != 3) = true := by rw [bne_iff_ne]; omega
    have HSTOP := hstop (rd1_len (by omega))
    clear hstop hstep hstr hsz hLC
    go_wp2_with fail
    go_ret2
    exact resE_error (readL_none (HSTOP.out HRD.out)) rfl hbe.out
   subst h3
   obtain ⟨t, p, f, rfl⟩ := three_of hqn
   obtain ⟨b2, o2, rfl, hb2, g⟩ := hstr.cells (by omega)
   have hCW : ∀ W, Below w.heap.size w W → (W.cell? ⟨b2, o2, none⟩ = some (.string t) ∧ W.cell? ⟨b2, o2 + 2, none⟩ = some (.string f)) ∧ (W.cell? ⟨b2, o2 + 1, none⟩ = some (.string p)) := fun W hb => by
    have g0 := (hb.cell (p := ⟨b2, o2 + 0, none⟩) hb2).trans (g 0 (by simp))
    have g1 := (hb.cell (p := ⟨b2, o2 + 1, none⟩) hb2).trans (g 1 (by simp))
    have g2 := (hb.cell (p := ⟨b2, o2 + 2, none⟩) hb2).trans (g 2 (by simp))
    exact ⟨⟨g0, g2⟩, g1⟩
   have HCX := zh hCW
   have hc0 := (HCX.out wr hbe.out).1.1
   have hc2 := (HCX.out wr hbe.out).1.2
   have HCW : Hid (∀ W, Below w.heap.size w W → (W.cell? ⟨b2, o2 + 1, none⟩ = some (.string p))) := fun W hb => (HCX.out W hb).2
   have HSZ := zh hsz
   clear hCW HCX g hstr hqn hLC hsz
   have e1 : ((3 : Int) != 3) = false := by decide
   by_cases ht : t = tag
   case neg =>
    have e2 : (!(t.toList == tag.toList)) = true := by rw [Bool.not_eq_true', beq_eq_false_iff_ne]; exact fun e => ht (toList_inj e)
    have HSTOP := hstop (rd1_tag ht)
    clear hstop hstep ht
    go_wp2_with fail
    go_ret2
    exact resE_error (readL_none (HSTOP.out HRD.out)) rfl hbe.out
   subst ht
   have e2 : (!(t.toList == t.toList)) = false := by simp
   have HPA : Hid (∀ W, Calls Tryz.prog 125 #[.string f] W fun e w' => e = .returned (.tuple #[.agg ((ppby f.data.toList).map (Value.int .u8)).toArray, .bool (ppok f.data.toList)]) ∧ Below W.heap.size W w') := fun W => Parse_any f W (HSZ.out _ _ f rfl)
   have HP32 : Hid (OkE ⟨p, ppby f.data.toList⟩) := ppby_byt _
   have HI1 : Hid ((Tryz.prog.info? 80).map (·.size) = some ((ppby f.data.toList).map (Value.int .u8)).toArray.size) := by show _ = _; rw [List.size_toArray]; exact info_d HP32.out
   have HI1s : Hid (32 = ((ppby f.data.toList).map (Value.int .u8)).toArray.size) := by show _ = _; rw [List.size_toArray]; simpa using (show 32 = (ppby f.data.toList).length from HP32.out.1.symm)
   cases hok : ppok f.data.toList with
   | false =>
     have HSTOP := hstop (rd1_bad hok)
     rw [hok] at HPA
     clear hstop hstep hok
     go_wp2_with fail
     refine (HPA.out _).mono ?_
     rintro e w3 ⟨rfl, hb3⟩
     have HB3 := zh (hbe.out.trans (hb3.mono hbs)); have HO3 := zh (hown.out.below hb3); clear hb3
     go_wp2_with (first | (refine wpList_store_row rfl 80 _ _ rfl w3.heap.size _ rfl rfl 80 _ (heap_alloc_new w3 _) HI1.out ((rfl : ((Array.replicate 32 (Value.int .u8 0))).size = 32).trans HI1s.out) (dgA_one _) ?_; rw [setRow_new]; generalize hw4 : World.alloc w3 _ = w4; have hd4 : DgB w4 w3.heap.size (ppby f.data.toList) := (by rw [← hw4]; exact heap_alloc_new _ _); have hb4 : Below w3.heap.size w3 w4 := (by rw [← hw4]; exact (Below.refl _ _).alloc (Nat.le_refl _) _); have HD4 := zh hd4; have HB4 := zh (HB3.out.trans (hb4.mono HB3.out.size)); have HO4 := zh (HO3.out.below hb4); clear hw4 hd4 hb4))
     go_ret2
     exact resE_error (readL_none (HSTOP.out HRD.out)) rfl HB4.out
   | true =>
     have HSTEP := hstep _ (rd1_good hok)
     rw [hok] at HPA
     clear hstop hstep hok
     go_wp2_with fail
     refine (HPA.out _).mono ?_
     rintro e w3 ⟨rfl, hb3⟩
     have HB3 := zh (hbe.out.trans (hb3.mono hbs)); have HO3 := zh (hown.out.below hb3); clear hb3
     go_wp2_with (first | (refine wpList_store_row rfl 80 _ _ rfl w3.heap.size _ rfl rfl 80 _ (heap_alloc_new w3 _) HI1.out ((rfl : ((Array.replicate 32 (Value.int .u8 0))).size = 32).trans HI1s.out) (dgA_one _) ?_; rw [setRow_new]; generalize hw4 : World.alloc w3 _ = w4; have hd4 : DgB w4 w3.heap.size (ppby f.data.toList) := (by rw [← hw4]; exact heap_alloc_new _ _); have hb4 : Below w3.heap.size w3 w4 := (by rw [← hw4]; exact (Below.refl _ _).alloc (Nat.le_refl _) _); have HD4 := zh hd4; have HB4 := zh (HB3.out.trans (hb4.mono HB3.out.size)); have HO4 := zh (HO3.out.below hb4); clear hw4 hd4 hb4))
     refine wp_region_held_drew (S := fun w' => (w'.cell? ⟨b2, o2 + 1, none⟩ = some (.string p)) ∧ DgB w' w3.heap.size (ppby f.data.toList)) (by kernel_rfl) ⟨HCW.out _ HB4.out.drew, HD4.out⟩ (fun hHeld => ?_)
     refine zv 0 rfl ?_
     refine zv 1 rfl ?_
     refine zv 2 rfl ?_
     refine zx 3 rfl (v := ?_) ?_ ?_; rotate_left
     ·intro w' hSw; have h1 := hSw.1; go_simp; try with_reducible rfl
     refine' zk 4 rfl (v := _) (yieldsIf_load_mid (by rfl) _ _ rfl _ _ rfl _ _ ?hS4n5 Tryz.underlying80 rfl (info_d HP32.out)) ?rest4n5
     case hS4n5 =>
      intro w' hSw
      exact hSw.2.all
     try simp only [Act.put, zuA, zuB, zuC, zuD, zuY, zuF]
     refine zk 5 rfl (v := _) (yieldsIf_buildS (by rfl) 82 [(0, .tmp 42), (1, .tmp 43)] rfl [(0, .string p), (1, .agg ((ppby f.data.toList).map (Value.int .u8)).toArray)] rfl _ (fun w' _ => buildE p (ppby f.data.toList) HP32.out.1 w')) ?rest5n6
     try simp only [Act.put, zuA, zuB, zuC, zuD, zuY, zuF]
     refine zr 6 rfl (fun K hK => ?_)
     rw [if_pos (by rfl)]
     refine wp_slice_eqS 29 1 [(0, .tmp 44)] rfl [(0, .agg (enL ⟨p, ppby f.data.toList⟩).toArray)] rfl _ _ (sliceE _ ⟨p, ppby f.data.toList⟩ HP32.out) ?_
     generalize hw5 : World.alloc w4.drew _ = w5
     have he5 : EnB w5 w4.heap.size ⟨p, ppby f.data.toList⟩ := by rw [← hw5]; exact heap_alloc_new w4.drew _
     have hb5 : Below w4.heap.size w4 w5 := by rw [← hw5]; exact ((Below.refl _ w4).drew).alloc (Nat.le_refl _) _
     have HE5 := zh he5
     have HB5 := zh (HB4.out.trans (hb5.mono HB4.out.size))
     have HO5 := zh (HO4.out.below hb5)
     have HD5 := zh (HD4.out.belowL hb5)
     have hs5 := HB5.out.size
     have hs4 := HB4.out.size
     clear hw5 he5 hb5
     refine hK.out _ _ ⟨HCW.out _ HB5.out, HD5.out⟩ fun _ => ?_; clear hK K
     try simp only [Act.put, zuA, zuB, zuC, zuD, zuY, zuF]
     refine zr 7 rfl (fun K hK => ?_)
     rw [if_pos (by rfl)]
     refine wp_append_enS (.tmp 39) (.tmp 45) rfl w.heap.size _ done k HKL.out rfl HO5.out w4.heap.size ⟨p, ppby f.data.toList⟩ rfl HE5.out HP32.out (by omega) (by omega) ?_
     intro sp6 cap6 w6 HO6 HB6 HG6
     have HB7 := zh (HB5.out.trans HB6.out)
     have HD6 := zh (HD5.out.keptL HO5.out.1 HG6.out)
     refine hK.out _ _ ⟨HCW.out _ HB7.out, HD6.out⟩ fun _ => ?_; clear hK K
     try simp only [Act.put, zuA, zuB, zuC, zuD, zuY, zuF]
     refine zv 8 rfl ?_
     refine zd ?_ _
     clear hHeld
     go_wp2_with fail
     go_roundw
     case rel => exact ⟨k + 1, done ++ [⟨p, ppby f.data.toList⟩], sp6, cap6, by omega, by go_num, rfl, by show _ = _; rw [List.length_append, ← HKL.out]; rfl, HSTEP, HO6, HB7⟩
     case measure => simp [intOf]; omega
  ·obtain rfl : k = np := by omega
   have hd : decide ((k : Int) < (k : Int)) = false := by simp
   have HEND : Hid (rawL tag (wordsOf ls) = some done) := rawL_end HRD.out (by rw [wordsOf_length, HP.out.len]; exact Nat.le_refl _)
   have hval := Valid_any sp' k cap' done wr (hown.out.ens HKL.out.symm) (by omega)
   have HRL := zh (readL_some HEND.out)
   cases hv : vldE done with
   | true =>
     rw [hv] at hval
     have HVAL := zh hval; have HV := zh hv; clear hval hv
     go_wp2_with fail
     refine HVAL.out.mono ?_
     rintro e w9 ⟨rfl, hb9⟩
     have HB9 := zh (hbe.out.trans (hb9.mono hbs)); have HO9 := zh (hown.out.below hb9); clear hb9
     go_wp2_with fail
     go_ret2
     exact resE_ok (by rw [HRL.out, HV.out]; rfl) HKL.out rfl HO9.out HB9.out
   | false =>
     rw [hv] at hval
     have HVAL := zh hval; have HV := zh hv; clear hval hv
     go_wp2_with fail
     refine HVAL.out.mono ?_
     rintro e w9 ⟨rfl, hb9⟩
     have HB9 := zh (hbe.out.trans (hb9.mono hbs)); clear hb9
     go_wp2_with fail
     go_ret2
     exact resE_error (by rw [HRL.out, HV.out]; rfl) rfl HB9.out
structure Rp where
 run : ByteArray
 scp : ByteArray
 stp : ByteArray
 t : Int
 c : List ByteArray
 v : List Vr
 m : List En
 p : List En
def Rc.pl (x : Rc) : Rp := ⟨x.run, x.scp, x.stp, x.t, x.c, x.v, x.m, x.p⟩
def CmdAns (gd B : Nat) (x : Rc) (m v : Bool) (n : Nat) (ls : List Ln) (w : World) (e : Ending) (w' : World) : Prop := e = .returned (.tuple #[]) ∧ Turn gd w w' ∧ ∃ x' m', DrB gd B x' m' v w' ∧ (x'.vn = x.vn ∧ (x'.c1 = x.c1 ∨ ∃ q ∈ ls, x'.c1 = slZ q.sp 1 1 q.cap)) ∧
 m' = (m || !decide (n = 1)) ∧ (m' = false → x'.pl = { x.pl with c := ((wordsOf ls).getD 0 []).drop 1 })
theorem infoStrU : (Tryz.prog.info? 9).map (·.size) = some 1 := by kernel_rfl
theorem readCommand_any (gd B : Nat) (x : Rc) (m v : Bool) (sp : Option Addr) (n cap : Nat) (ls : List Ln) (w : World) (h : DrB gd B x m v w) (hl : LinesIn w B sp n ls) (hne : ∀ q ∈ ls, q.l ≠ [] ∧ q.n ≤ q.cap) :
 Calls Tryz.prog 64 #[.pointer (some ⟨gd, 0, none⟩), .slice sp n cap] w (CmdAns gd B x m v n ls w) := by
 have HD := zh h; have HL := zh hl
 have HRQ := zh (fun f => require_any gd B x m v f w HD.out)
 have HNE := zh hne
 clear h hl hne
 by_cases hn : n = 1
 case neg =>
  have hd : decide ((n : Int) = 1) = false := by simp; omega
  have hd2 : ((n : Int) == 1) = false := by rw [beq_eq_false_iff_ne]; omega
  have hdn : decide (n = 1) = false := decide_eq_false hn
  go_enter Tryz.func64, Tryz.ntmps64
  go_wp2_with fail
  refine (HRQ.out false).mono ?_
  rintro e w1 ⟨rfl, hd1, ht1⟩
  have HD1 := zh hd1; have HT1 := zh ht1
  clear hd1 ht1 HRQ
  go_wp2_with fail
  first | go_end0 | (refine bodyPost_ret (results_none rfl _ _ _) rfl ?_)
  exact ⟨rfl, HT1.out, x, _, HD1.out, ⟨rfl, .inl rfl⟩, by rw [hdn], by simp⟩
 subst hn
 obtain ⟨b, off, rfl, hb, hcell⟩ := HL.out.cells (by omega)
 obtain ⟨qs, qn, qc, ql, rfl⟩ : ∃ qs qn qc ql, ls = [(⟨qs, qn, qc, ql⟩ : Ln)] := by
  have := HL.out.len
  match ls, this with
  | [r], _ => exact ⟨r.sp, r.n, r.cap, r.l, rfl⟩
 have cq := hcell 0 (by simp)
 rw [Nat.add_zero] at cq
 simp only [List.getElem_cons_zero] at cq
 have HST : Hid (StrsIn w B qs qn ql) := HL.out.each _ (List.mem_singleton.2 rfl)
 replace cq : w.cell? ⟨b, off, none⟩ = some (.slice qs qn qc) := cq
 have HQ0 : Hid (ql ≠ [] ∧ qn ≤ qc) := HNE.out _ (List.mem_singleton.2 rfl)
 have HCQ : Hid (∀ w', Below B w w' → w'.cell? ⟨b, off, none⟩ = some (.slice qs qn qc)) := fun w' hbb => (hbb.cell (p := ⟨b, off, none⟩) hb).trans cq
 clear hcell HL HNE hb cq
 have hq1 : 1 ≤ qn := by
  have h1 := HST.out.len
  have h2 := HQ0.out.1
  cases ql with
  | nil => exact absurd rfl h2
  | cons a r => simp at h1; omega
 go_enter Tryz.func64, Tryz.ntmps64
 go_wp2_with fail
 refine (HRQ.out true).mono ?_
 rintro e w1 ⟨rfl, hd1, ht1⟩
 have hmt : (m || !true) = m := by simp
 rw [hmt] at hd1
 have HD1 := zh hd1; have HT1 := zh ht1
 have HB1 : Hid (Below B w w1) := ht1.below HD.out.lo HD.out.lt
 have cq1 := HCQ.out w1 HB1.out
 have HS1 : Hid (StrsIn w1 B (slZ qs 1 1 qc) (qn - 1) (ql.drop 1)) := (HST.out.from hq1 HQ0.out.2).below HB1.out (Nat.le_refl _)
 have hsl := run_fromZ (t := 27) Tryz.underlying27 infoStrU w1 qs qn qc 1 hq1
 rw [show ((1 : Nat) : Int) = 1 from rfl] at hsl
 have HD2 := zh (HD1.out.set 4 (.slice (slZ qs 1 1 qc) (qn - 1) (qc - 1)) { x with c1 := slZ qs 1 1 qc, cn := qn - 1, cc := qc - 1, c := ql.drop 1 } m v rfl HS1.out HD1.out.v HD1.out.m HD1.out.p)
 have HT2 : Hid (Turn gd w (w1.setCell ⟨gd, 4, none⟩ (.slice (slZ qs 1 1 qc) (qn - 1) (qc - 1)))) := HT1.out.trans (Turn.tick _ _ _ _)
 have cS := (HD1.out.cell (j := 4) rfl).1
 have fS := (HD1.out.cell (j := 4) rfl).2
 clear hd1 ht1 HRQ hmt HD1 HT1 HB1 HS1 HCQ HST HQ0 HD
 go_wp2_with fail
 first | go_end0 | (refine bodyPost_ret (results_none rfl _ _ _) rfl ?_)
 exact ⟨rfl, HT2.out, _, m, HD2.out, ⟨rfl, .inr ⟨_, List.mem_singleton.2 rfl, rfl⟩⟩, by simp, fun _ => rfl⟩
theorem buildVr (s1 s2 : ByteArray) (w : World) : (Instr.build 61 #[(0, .string s1), (1, .string s2)]).run Tryz.prog w = .ok (.agg #[.string s1, .string s2]) w := by kernel_rfl
theorem sliceV1 (s1 s2 : ByteArray) (w : World) : (Instr.buildSlice 28 1 #[(0, .agg #[.string s1, .string s2])]).run Tryz.prog w = .ok (.slice (some ⟨w.heap.size, 0, none⟩) 1 1) (w.alloc (.cells #[.string s1, .string s2] 61)) := by kernel_rfl
theorem infoVr3 : (Tryz.prog.info? 61).map (fun i => (i.zero, i.size, i.bytes)) = some (some (.agg #[.string ByteArray.empty, .string ByteArray.empty]), 2, 32) := by kernel_rfl
theorem wp_append_vr {w : World} {o : Oper} {a : Act} {K : Act → World → Prop} {Q : Exit → Act → World → Prop} (s x : Operand)
 (ho : o.op = .call { callee := .builtin .append, args := #[s, x], argTypes := #[28, 28] })
 (base : Nat) (v : Value) (xs : List Vr) (n : Nat) (hs : a.eval s = v) (hn : n = xs.length) (hown : w.ownsRow base 61 2 v n (xs.flatMap vrL))
 (g : Nat) (y : Vr) (hx : a.eval x = .slice (some ⟨g, 0, none⟩) 1 1) (hc : w.heap[g]? = some (.cells (vrL y).toArray 61 (0, 0)))
 (hlen : n ≤ 1000000) (hbase : base ≤ w.heap.size)
 (h : ∀ sp cap w', Hid (w'.ownsRow base 61 2 (.slice sp (n + 1) cap) (n + 1) ((xs ++ [y]).flatMap vrL)) → Hid (w.grownBy w' v.ownBlock) → K (a.put o.dst (.slice sp (n + 1) cap)) w') : o.wp Tryz.prog a w K Q := by
 obtain ⟨i0, hi0, hz0, hz1, hz2⟩ := info_partsQ infoVr3
 refine wp_append_own w s x _ ho base _ i0 _ 2 32 Tryz.underlying28 hi0 hz0 hz1 hz2 rfl (by decide) v n _ hs hown ⟨g, 0, none⟩ 1 1 (vrL y) hx rfl ?_ (by intro u hu; simp [vrL] at hu; rcases hu with rfl | rfl <;> rfl) (by unfold maxLen; omega) (by omega) hbase ?_
 ·intro j u hj
  rw [Addr.add_mid, Nat.zero_add]
  exact heap_cellR hc hj
 ·intro v' w' h1 h2 _
  obtain ⟨sp, cap, rfl⟩ := own_shapeQ h1
  exact h sp cap w' (by show World.ownsRow _ _ _ _ _ _ _; rw [List.flatMap_append]; simpa using h1) h2
theorem own_grownQ {w w' : World} {B e size n : Nat} {v : Value} {xs : List Value} {e2 size2 n2 : Nat} {v2 : Value} {xs2 : List Value} (h : w.ownsRow B e size v n xs) (h2 : w.ownsRow B e2 size2 v2 n2 xs2) (hg : w.grownBy w' v2.ownBlock) (he : e ≠ e2) : w'.ownsRow B e size v n xs :=
 own_keptQ h fun g cur _ hc => hg.block g (Array.getElem?_eq_some_iff.1 hc).1 (own_neQ h2 hc he)
theorem DrB.grownRow {gd B : Nat} {x : Rc} {m v : Bool} {w w' : World} (h : DrB gd B x m v w) (hg : w.grownBy w' (Value.slice x.v1 x.vn x.vc).ownBlock) : w'.heap[gd]? = some (.cells (drL x m v).toArray 70 (0, 0)) :=
 (hg.block gd h.lt (own_neQ h.v.1 h.row (by decide))).trans h.row
theorem DrB.push {gd B : Nat} {x : Rc} {m v : Bool} {w : World} (h : DrB gd B x m v w) (sp : Option Addr) (cap : Nat) (y : Vr) (w' : World) (ho : w'.ownsRow B 61 2 (.slice sp (x.vn + 1) cap) (x.vn + 1) ((x.v ++ [y]).flatMap vrL)) (hg : w.grownBy w' (Value.slice x.v1 x.vn x.vc).ownBlock) :
 DrB gd B { x with v1 := sp, vn := x.vn + 1, vc := cap, v := x.v ++ [y] } m v (w'.setCell ⟨gd, 5, none⟩ (.slice sp (x.vn + 1) cap)) := by
 have hbb : Below B w w' := (Below.refl B w).grown hg (Nat.le_of_lt (Nat.lt_of_le_of_lt h.lo h.lt)) (own_baseG h.v.1)
 have h2 : DrB gd B { x with v1 := sp, vn := x.vn + 1, vc := cap, v := x.v ++ [y] } m v (w'.setCell ⟨gd, 5, none⟩ (.slice sp (x.vn + 1) cap)) :=
  ⟨by rw [heap_setCell_same _ _ _ _ _ _ (h.grownRow hg)]; rfl, h.lo, h.c.below (hbb.setCell (p := ⟨gd, 5, none⟩) h.lo _) (Nat.le_refl _),
   ⟨own_setD ho (h.grownRow hg) (by decide), by show (x.v ++ [y]).length = _; simp [h.v.2]⟩,
   ⟨⟨own_setD (own_grownQ h.m.1.1 h.v.1 hg (by decide)) (h.grownRow hg) (by decide), h.m.1.2⟩, h.m.2⟩,
   ⟨⟨own_setD (own_grownQ h.p.1.1 h.v.1 hg (by decide)) (h.grownRow hg) (by decide), h.p.1.2⟩, h.p.2⟩⟩
 exact h2
structure Frm (gd B : Nat) (w w' : World) : Prop where
 b : Below B w w'
 k : ∀ k cs t fr, w.heap[k]? = some (.cells cs t fr) → k ≠ gd → t ≠ 61 → w'.heap[k]? = w.heap[k]?
theorem Frm.trans {gd B : Nat} {a b c : World} (h : Frm gd B a b) (k : Frm gd B b c) : Frm gd B a c :=
 ⟨h.b.trans k.b, fun n cs t fr hn h1 h2 => (k.k n cs t fr ((h.k n cs t fr hn h1 h2).trans hn) h1 h2).trans (h.k n cs t fr hn h1 h2)⟩
theorem Frm.refl (gd B : Nat) (w : World) : Frm gd B w w := ⟨Below.refl _ _, fun _ _ _ _ _ _ _ => rfl⟩
theorem Frm.of {gd B : Nat} {w w' : World} (hB : B ≤ w.heap.size) (h : Below w.heap.size w w') : Frm gd B w w' := ⟨h.mono hB, fun k _ _ _ hk _ _ => h.block k (Array.getElem?_eq_some_iff.1 hk).1⟩
theorem Frm.turn {gd B : Nat} {w w' : World} (h : Turn gd w w') (hB : B ≤ gd) (hg : gd < w.heap.size) : Frm gd B w w' := ⟨h.below hB hg, fun k _ _ _ hk hne _ => h.block k (Array.getElem?_eq_some_iff.1 hk).1 hne⟩
theorem DrB.pushFrm {gd B : Nat} {x : Rc} {m v : Bool} {w w' : World} (h : DrB gd B x m v w) (hg : w.grownBy w' (Value.slice x.v1 x.vn x.vc).ownBlock) (u : Value) : Frm gd B w (w'.setCell ⟨gd, 5, none⟩ u) :=
 ⟨((Below.refl B w).grown hg (Nat.le_of_lt (Nat.lt_of_le_of_lt h.lo h.lt)) (own_baseG h.v.1)).setCell (p := ⟨gd, 5, none⟩) h.lo _,
  fun k cs t fr hk hne ht => (heap_setCell_other _ _ _ _ hne).trans (hg.block k (Array.getElem?_eq_some_iff.1 hk).1 (own_neQ h.v.1 hk ht))⟩
def vrOf (q : List ByteArray) : Vr := ⟨q.getD 1 ByteArray.empty, q.getD 2 ByteArray.empty⟩
def len3 (q : List ByteArray) : Bool := decide (q.length = 3)
theorem all3_succ {L : List (List ByteArray)} {k : Nat} {q : List ByteArray} (h : L[k]? = some q) : (L.take (k + 1)).all len3 = ((L.take k).all len3 && len3 q) := by
 rw [List.take_add_one, h]; simp
theorem map3_succ {L : List (List ByteArray)} {k : Nat} {q : List ByteArray} (h : L[k]? = some q) : (L.take (k + 1)).map vrOf = (L.take k).map vrOf ++ [vrOf q] := by
 rw [List.take_add_one, h]; simp
def EnvAns (gd B : Nat) (x : Rc) (m0 v : Bool) (ls : List Ln) (w : World) (e : Ending) (w' : World) : Prop := e = .returned (.tuple #[]) ∧ Frm gd B w w' ∧ ∃ x' m', DrB gd B x' m' v w' ∧ x'.c1 = x.c1 ∧
 m' = (m0 || !(wordsOf ls).all len3) ∧ (m' = false → x'.pl = { x.pl with v := x.pl.v ++ (wordsOf ls).map vrOf })
theorem readEnv_any (gd B : Nat) (x : Rc) (m0 v : Bool) (sp : Option Addr) (n cap : Nat) (ls : List Ln) (w : World) (h : DrB gd B x m0 v w) (hl : LinesIn w B sp n ls) (hn : n ≤ 1000) (hxn : x.vn = 0) :
 Calls Tryz.prog 65 #[.pointer (some ⟨gd, 0, none⟩), .slice sp n cap] w (EnvAns gd B x m0 v ls w) := by
 have HD := zh h; have HL := zh hl
 clear h hl
 have HWL : Hid ((wordsOf ls).length = n) := by show _ = _; rw [wordsOf_length, HL.out.len]
 go_enter Tryz.func65, Tryz.ntmps65
 go_wp2_with fail
 go_loopw [8] (fun i wr => ∃ (k : Nat) (x1 : Rc) (m : Bool), i = .int .i64 k ∧ k ≤ n ∧ Hid (DrB gd B x1 m v wr) ∧ Hid (Frm gd B w wr) ∧ Hid (x1.vn ≤ k ∧ x1.c1 = x.c1) ∧ Hid (m = (m0 || !((wordsOf ls).take k).all len3)) ∧ Hid (m = false → x1.pl = { x.pl with v := x.pl.v ++ ((wordsOf ls).take k).map vrOf })) (fun i _ => n - (intOf i).toNat)
 case atStart => exact ⟨0, x, m0, rfl, by omega, HD.out, Frm.refl _ _ _, ⟨by omega, rfl⟩, by show _ = _; simp, by show _ → _; intro _; simp⟩
 case round =>
  obtain ⟨k, x1, m, rfl, hkn, HDR, HT, HVN, HREL, HPL⟩ := hrel
  clear HD
  by_cases hlt : k < n
  ·have hd : decide ((k : Int) < (n : Int)) = true := by simp; omega
   have HLR : Hid (gd < wr.heap.size) := HDR.out.lt
   obtain ⟨b, off, hsp, hb, hcell⟩ := HL.out.cells (by omega)
   have hk2 : k < ls.length := by have := HL.out.len; omega
   have ck := hcell k hk2
   have HST := zh (HL.out.each _ (List.getElem_mem hk2))
   have hwk : (wordsOf ls)[k]? = some ls[k].l := by unfold wordsOf; rw [List.getElem?_map, List.getElem?_eq_getElem hk2]; rfl
   clear hcell
   obtain ⟨qs, qn, qc, ql, hqe⟩ : ∃ qs qn qc ql, ls[k] = (⟨qs, qn, qc, ql⟩ : Ln) := ⟨ls[k].sp, ls[k].n, ls[k].cap, ls[k].l, rfl⟩
   rw [hqe] at ck HST hwk
   replace HST : Hid (StrsIn w B qs qn ql) := HST
   replace ck : w.cell? ⟨b, off + k, none⟩ = some (.slice qs qn qc) := ck
   replace hwk : (wordsOf ls)[k]? = some ql := hwk
   have ckr : wr.cell? ⟨b, off + k, none⟩ = some (.slice qs qn qc) := (HT.out.b.cell (p := ⟨b, off + k, none⟩) hb).trans ck
   have HWK := zh hwk
   subst hsp
   have p1 : (0 : Int) ≤ (k : Int) := by omega
   have p2 : (k : Int) < (n : Int) := by omega
   have HRQ := zh (fun f => require_any gd B x1 m v f wr HDR.out)
   clear hqe hk2 hwk ck
   by_cases h3 : qn = 3
   case neg =>
    have hd3 : decide ((qn : Int) = 3) = false := by simp; omega
    have hd4 : ((qn : Int) == 3) = false := by rw [beq_eq_false_iff_ne]; omega
    have hl3 : Hid (len3 ql = false) := by show _ = _; unfold len3; rw [HST.out.len]; exact decide_eq_false h3
    clear HST
    go_wp2_with fail
    refine (HRQ.out false).mono ?_
    rintro e w1 ⟨rfl, hd1, ht1⟩
    have HD1 := zh hd1
    have HT1 : Hid (Frm gd B w w1) := HT.out.trans (Frm.turn ht1 HDR.out.lo HDR.out.lt)
    clear hd1 ht1 HRQ HDR HT
    go_wp2_with fail
    go_roundw
    case rel => exact ⟨k + 1, x1, _, by go_num, by omega, HD1.out, HT1.out, ⟨by have := HVN.out.1; omega, HVN.out.2⟩, by show _ = _; rw [all3_succ HWK.out, hl3.out]; simp, by show _ → _; simp⟩
    case measure => simp [intOf]; omega
   subst h3
   have hl3 : Hid (len3 ql = true) := by show _ = _; unfold len3; rw [HST.out.len]; rfl
   obtain ⟨s0, s1, s2, hq⟩ : ∃ s0 s1 s2, ql = [s0, s1, s2] := by
    have := HST.out.len
    match ql, this with
    | [a, b, c], _ => exact ⟨a, b, c, rfl⟩
   obtain ⟨b2, off2, hs2, hb2, hcell2⟩ := HST.out.cells (by omega)
   subst hs2
   subst hq
   have HW0 : Hid (∀ w', Below B w w' → w'.cell? ⟨b2, off2 + 1, none⟩ = some (.string s1) ∧ w'.cell? ⟨b2, off2 + 2, none⟩ = some (.string s2)) := fun w' hb =>
    ⟨(hb.cell (p := ⟨b2, off2 + 1, none⟩) hb2).trans (hcell2 1 (by simp)), (hb.cell (p := ⟨b2, off2 + 2, none⟩) hb2).trans (hcell2 2 (by simp))⟩
   clear hcell2 hb2 HST
   go_wp2_with fail
   refine (HRQ.out true).mono ?_
   rintro e w2 ⟨rfl, hd1, ht1⟩
   have hmt : (m || !true) = m := by simp
   rw [hmt] at hd1
   have HT2 : Hid (Frm gd B w w2) := HT.out.trans (Frm.turn ht1 HDR.out.lo HDR.out.lt)
   clear HDR HT HLR ckr
   have HDR := zh hd1
   have HLR : Hid (gd < w2.heap.size) := HDR.out.lt
   have HT := HT2
   have HWD : Hid (∀ w', Below B w2 w' → w'.cell? ⟨b2, off2 + 1, none⟩ = some (.string s1) ∧ w'.cell? ⟨b2, off2 + 2, none⟩ = some (.string s2)) := fun w' hb => HW0.out w' (HT2.out.b.trans hb)
   have HREL2 : Hid (m = (m0 || !((wordsOf ls).take (k + 1)).all len3)) := by show _ = _; rw [all3_succ HWK.out, hl3.out, Bool.and_true]; exact HREL.out
   have HPL2 : Hid (m = false → ({ x1.pl with v := x1.pl.v ++ [⟨s1, s2⟩] } : Rp) = { x.pl with v := x.pl.v ++ ((wordsOf ls).take (k + 1)).map vrOf }) := by
    show _ → _
    intro hm
    rw [HPL.out hm, map3_succ HWK.out, ← List.append_assoc]
    rfl
   have hvn : x1.vn ≤ 1000 := by have := HVN.out.1; omega
   have HVN2 : Hid (x1.vn + 1 ≤ k + 1 ∧ x1.c1 = x.c1) := ⟨by have := HVN.out.1; omega, HVN.out.2⟩
   clear hd1 ht1 HRQ hmt HT2 HW0 HREL HPL HVN hl3 hd HWK
   obtain ⟨wr, hwr⟩ : ∃ wr, wr = w2 := ⟨_, rfl⟩
   subst hwr
   go_upto_region 4 with fail
   refine wp_region_held_drew (S := fun w' => Below B wr w') (by kernel_rfl) (Below.refl B wr).drew (fun hHeld => ?_)
   have HDd := zh (HDR.out.below (Below.refl wr.heap.size wr).drew)
   have HBd : Hid (Below B wr wr.drew) := (Below.refl B wr).drew
   have HTd : Hid (Frm gd B wr wr.drew) := Frm.of (Nat.le_of_lt (Nat.lt_of_le_of_lt HDd.out.lo HLR.out)) (Below.refl wr.heap.size wr).drew
   clear HDR
   generalize World.drew wr = wd at *
   refine zv 0 rfl ?_
   refine zv 1 rfl ?_
   refine zv 2 rfl ?_
   refine zv 3 rfl ?_
   refine zv 4 rfl ?_
   refine zv 6 rfl ?_
   refine zv 7 rfl ?_
   refine zx 8 rfl (v := ?_) ?_ ?_; rotate_left
   ·intro w' hSw; have ce := (HWD.out w' hSw).1; go_simp; try with_reducible rfl
   refine zv 9 rfl ?_
   refine zv 10 rfl ?_
   refine zx 11 rfl (v := ?_) ?_ ?_; rotate_left
   ·intro w' hSw; have ce := (HWD.out w' hSw).2; go_simp; try with_reducible rfl
   refine zk 12 rfl (v := _) (yieldsIf_buildS (by rfl) 61 [(0, .tmp 25), (1, .tmp 28)] rfl [(0, .string s1), (1, .string s2)] rfl _ (fun w' _ => buildVr s1 s2 w')) ?rest12n12
   try simp only [Act.put, zuA, zuB, zuC, zuD, zuY, zuF]
   refine zs 5 13 rfl (fun K hK => ?_) rfl (fun K hK => ?_)
   ·rw [if_pos (by rfl)]
    have k1 : World.cell? wd ⟨gd, 5, none⟩ = some (.slice x1.v1 x1.vn x1.vc) := (HDd.out.cell (j := 5) rfl).1
    go_simp
    refine hK.out _ _ HBd.out (fun hHeld => ?_)
    clear hK K k1
    try simp only [Act.put, zuA, zuB, zuC, zuD, zuY, zuF]
    refine zr 13 rfl (fun K hK => ?_)
    rw [if_pos (by rfl)]
    refine wp_slice_eqR 28 1 [(0, .tmp 29)] rfl [(0, .agg #[.string s1, .string s2])] rfl _ _ (sliceV1 s1 s2 _) ?_
    have HDa := zh (HDd.out.below (Below.refl wd.heap.size wd |>.alloc (Nat.le_refl _) (.cells #[.string s1, .string s2] 61)))
    have HBa : Hid (Below B wr (wd.alloc (.cells #[.string s1, .string s2] 61))) := HBd.out.alloc (Nat.le_of_lt (Nat.lt_of_le_of_lt HDd.out.lo HDd.out.lt)) _
    have HTa : Hid (Frm gd B wr (wd.alloc (.cells #[.string s1, .string s2] 61))) := HTd.out.trans (Frm.of (Nat.le_of_lt (Nat.lt_of_le_of_lt HDd.out.lo HDd.out.lt)) ((Below.refl _ _).alloc (Nat.le_refl _) _))
    have HNa : Hid ((wd.alloc (.cells #[.string s1, .string s2] 61)).heap[wd.heap.size]? = some (.cells (vrL ⟨s1, s2⟩).toArray 61 (0, 0))) := heap_alloc_new wd _
    clear HDd HBd HTd
    generalize (wd.alloc (.cells #[.string s1, .string s2] 61)) = wa at *
    generalize wd.heap.size = ga at *
    refine hK.out _ _ HBa.out fun _ => ?_; clear hK K
    try simp only [Act.put, zuA, zuB, zuC, zuD, zuY, zuF]
    refine zr 14 rfl (fun K hK => ?_)
    rw [if_pos (by rfl)]
    refine wp_append_vr (.tmp 22) (.tmp 30) rfl B _ x1.v x1.vn rfl HDa.out.v.2.symm HDa.out.v.1 ga ⟨s1, s2⟩ rfl HNa.out (by omega) (Nat.le_of_lt (Nat.lt_of_le_of_lt HDa.out.lo HDa.out.lt)) ?_
    intro sp7 cap7 w7 HO7 HG7
    have HD8 := zh (HDa.out.push sp7 cap7 ⟨s1, s2⟩ w7 HO7.out HG7.out)
    have HR7 := HDa.out.grownRow HG7.out
    have HB7 : Hid (Below B wr w7) := HBa.out.grown HG7.out (Nat.le_of_lt (Nat.lt_of_le_of_lt HDa.out.lo HDa.out.lt)) (own_baseG HDa.out.v.1)
    have HT8 : Hid (Frm gd B wr (w7.setCell ⟨gd, 5, none⟩ (.slice sp7 (x1.vn + 1) cap7))) := HTa.out.trans (HDa.out.pushFrm HG7.out _)
    have HB8 : Hid (Below B wr (w7.setCell ⟨gd, 5, none⟩ (.slice sp7 (x1.vn + 1) cap7))) := HB7.out.setCell (p := ⟨gd, 5, none⟩) HD8.out.lo _
    refine hK.out _ _ HB7.out (fun hHeld => ?_)
    clear hK K HO7 HG7 HNa HBa HTa HDa
    try simp only [Act.put, zuA, zuB, zuC, zuD, zuY, zuF]
    refine zv 15 rfl ?_
    refine zv 16 rfl ?_
    refine zv 17 rfl ?_
    refine zr 18 rfl (fun K hK => ?_)
    rw [if_pos (by rfl)]
    have cS : w7.cell? ⟨gd, 5, none⟩ = some (.slice x1.v1 x1.vn x1.vc) := heap_cellR HR7 rfl
    have fS : w7.frozen? ⟨gd, 5, none⟩ = false := frozen_of_row _ _ _ _ _ HR7
    go_simp
    clear cS fS HR7
    generalize World.setCell w7 _ _ = w8 at *
    refine hK.out _ _ HB8.out fun _ => ?_; clear hK K
    try simp only [Act.put, zuA, zuB, zuC, zuD, zuY, zuF]
    refine zd ?_ _
    go_wp2_with fail
    go_roundw
    case rel => exact ⟨k + 1, _, m, by go_num, by omega, HD8.out, HT.out.trans HT8.out, HVN2.out, HREL2.out, HPL2.out⟩
    case measure => simp [intOf]; omega
   ·rw [if_pos (by rfl)]
    refine wp_slice_eqR 28 1 [(0, .tmp 29)] rfl [(0, .agg #[.string s1, .string s2])] rfl _ _ (sliceV1 s1 s2 _) ?_
    have HDa := zh (HDd.out.below (Below.refl wd.heap.size wd |>.alloc (Nat.le_refl _) (.cells #[.string s1, .string s2] 61)))
    have HBa : Hid (Below B wr (wd.alloc (.cells #[.string s1, .string s2] 61))) := HBd.out.alloc (Nat.le_of_lt (Nat.lt_of_le_of_lt HDd.out.lo HDd.out.lt)) _
    have HTa : Hid (Frm gd B wr (wd.alloc (.cells #[.string s1, .string s2] 61))) := HTd.out.trans (Frm.of (Nat.le_of_lt (Nat.lt_of_le_of_lt HDd.out.lo HDd.out.lt)) ((Below.refl _ _).alloc (Nat.le_refl _) _))
    have HNa : Hid ((wd.alloc (.cells #[.string s1, .string s2] 61)).heap[wd.heap.size]? = some (.cells (vrL ⟨s1, s2⟩).toArray 61 (0, 0))) := heap_alloc_new wd _
    clear HDd HBd HTd
    generalize (wd.alloc (.cells #[.string s1, .string s2] 61)) = wa at *
    generalize wd.heap.size = ga at *
    refine hK.out _ _ HBa.out fun _ => ?_; clear hK K
    try simp only [Act.put, zuA, zuB, zuC, zuD, zuY, zuF]
    refine zr 5 rfl (fun K hK => ?_)
    rw [if_pos (by rfl)]
    have k1 : World.cell? wa ⟨gd, 5, none⟩ = some (.slice x1.v1 x1.vn x1.vc) := (HDa.out.cell (j := 5) rfl).1
    go_simp
    refine hK.out _ _ HBa.out (fun hHeld => ?_)
    clear hK K k1
    try simp only [Act.put, zuA, zuB, zuC, zuD, zuY, zuF]
    refine zr 14 rfl (fun K hK => ?_)
    rw [if_pos (by rfl)]
    refine wp_append_vr (.tmp 22) (.tmp 30) rfl B _ x1.v x1.vn rfl HDa.out.v.2.symm HDa.out.v.1 ga ⟨s1, s2⟩ rfl HNa.out (by omega) (Nat.le_of_lt (Nat.lt_of_le_of_lt HDa.out.lo HDa.out.lt)) ?_
    intro sp7 cap7 w7 HO7 HG7
    have HD8 := zh (HDa.out.push sp7 cap7 ⟨s1, s2⟩ w7 HO7.out HG7.out)
    have HR7 := HDa.out.grownRow HG7.out
    have HB7 : Hid (Below B wr w7) := HBa.out.grown HG7.out (Nat.le_of_lt (Nat.lt_of_le_of_lt HDa.out.lo HDa.out.lt)) (own_baseG HDa.out.v.1)
    have HT8 : Hid (Frm gd B wr (w7.setCell ⟨gd, 5, none⟩ (.slice sp7 (x1.vn + 1) cap7))) := HTa.out.trans (HDa.out.pushFrm HG7.out _)
    have HB8 : Hid (Below B wr (w7.setCell ⟨gd, 5, none⟩ (.slice sp7 (x1.vn + 1) cap7))) := HB7.out.setCell (p := ⟨gd, 5, none⟩) HD8.out.lo _
    refine hK.out _ _ HB7.out (fun hHeld => ?_)
    clear hK K HO7 HG7 HNa HBa HTa HDa
    try simp only [Act.put, zuA, zuB, zuC, zuD, zuY, zuF]
    refine zv 15 rfl ?_
    refine zv 16 rfl ?_
    refine zv 17 rfl ?_
    refine zr 18 rfl (fun K hK => ?_)
    rw [if_pos (by rfl)]
    have cS : w7.cell? ⟨gd, 5, none⟩ = some (.slice x1.v1 x1.vn x1.vc) := heap_cellR HR7 rfl
    have fS : w7.frozen? ⟨gd, 5, none⟩ = false := frozen_of_row _ _ _ _ _ HR7
    go_simp
    clear cS fS HR7
    generalize World.setCell w7 _ _ = w8 at *
    refine hK.out _ _ HB8.out fun _ => ?_; clear hK K
    try simp only [Act.put, zuA, zuB, zuC, zuD, zuY, zuF]
    refine zd ?_ _
    go_wp2_with fail
    go_roundw
    case rel => exact ⟨k + 1, _, m, by go_num, by omega, HD8.out, HT.out.trans HT8.out, HVN2.out, HREL2.out, HPL2.out⟩
    case measure => simp [intOf]; omega
  ·obtain rfl : k = n := by omega
   have hd : decide ((k : Int) < (k : Int)) = false := by simp
   go_wp2_with fail
   first | go_end0 | (refine bodyPost_ret (results_none rfl _ _ _) rfl ?_)
   have ht : (wordsOf ls).take k = wordsOf ls := List.take_of_length_le (by rw [HWL.out]; exact Nat.le_refl _)
   exact ⟨rfl, HT.out, x1, m, HDR.out, HVN.out.2, by have := HREL.out; rwa [ht] at this, by have := HPL.out; rwa [ht] at this⟩
def FilAns (gd B : Nat) (x : Rc) (m v : Bool) (tag : ByteArray) (L : List (List ByteArray)) (w : World) (e : Ending) (w' : World) : Prop := ∃ sp n cap l m' v', e = .returned (.slice sp n cap) ∧ Turn gd w w' ∧ Hid (DrB gd B x m' v' w') ∧ Hid (OwnE w' B (.slice sp n cap) l ∧ l.length = n) ∧
 m' = (m || !(rawL tag L).isSome) ∧ (∀ l0, rawL tag L = some l0 → (vldE l0 = true → l = l0 ∧ v' = v) ∧ (vldE l0 = false → v' = true))
theorem readFiles_any (gd B : Nat) (x : Rc) (m v : Bool) (tag : ByteArray) (sp : Option Addr) (n cap : Nat) (ls : List Ln) (w : World) (h : DrB gd B x m v w) (hl : LinesIn w B sp n ls) (hn : n ≤ 1000) (hq : ∀ q ∈ ls, q.n ≤ 100000) (hsz : ∀ q ∈ ls, ∀ s ∈ q.l, s.size ≤ 100000) :
 Calls Tryz.prog 66 #[.pointer (some ⟨gd, 0, none⟩), .string tag, .slice sp n cap] w (FilAns gd B x m v tag (wordsOf ls) w) := by
 have HD := zh h
 have hBw : B ≤ w.heap.size := Nat.le_of_lt (Nat.lt_of_le_of_lt h.lo h.lt)
 have HBW := zh hBw
 have HRD := zh (Read_any tag sp n cap ls w (hl.more hBw) (by omega) (fun q hqq => by have := hq q hqq; omega) (fun q hqq t p f e => by have := hsz q hqq f (by rw [e]; simp); omega))
 clear h hl hq hsz hBw
 obtain ⟨L, hL⟩ : ∃ L, L = wordsOf ls := ⟨_, rfl⟩
 rw [← hL] at HRD
 rw [← hL]
 clear hL
 cases hr : rawL tag L with
 | none =>
   rw [readL_none hr] at HRD
   go_enter Tryz.func66, Tryz.ntmps66
   go_wp2_with fail
   refine HRD.out.mono ?_
   rintro e w1 ⟨rfl, hb1⟩
   have HD1 := zh (HD.out.below hb1)
   have HT1 : Hid (Turn gd w w1) := Turn.of hb1
   have HRQ := zh (fun f => require_any gd B x m v f w1 HD1.out)
   clear hb1 HRD HD
   go_wp2_with fail
   refine (HRQ.out false).mono ?_
   rintro e w2 ⟨rfl, hd2, ht2⟩
   have HD2 := zh hd2
   have HT2 : Hid (Turn gd w w2) := HT1.out.trans ht2
   have cS := (HD2.out.cell (j := 9) rfl).1
   have fS := (HD2.out.cell (j := 9) rfl).2
   have HD3 := zh (HD2.out.set 9 (.bool v) x (m || !false) v rfl HD2.out.c HD2.out.v HD2.out.m HD2.out.p)
   have HT3 : Hid (Turn gd w (w2.setCell ⟨gd, 9, none⟩ (.bool v))) := HT2.out.trans (Turn.tick _ _ _ _)
   clear hd2 ht2 HRQ HT1 HT2 HD2 HD1
   have HR := zh hr
   clear hr
   cases v
   all_goals
    go_wp2_with fail
    go_ret
    exact ⟨none, 0, 0, [], _, _, rfl, HT3.out, HD3.out, ⟨⟨World.ownsRow_nil _ _ _ _, by simp⟩, rfl⟩, by rw [HR.out] <;> simp, fun l0 h0 => by rw [HR.out] at h0; cases h0⟩
 | some l0 =>
   by_cases hv : vldE l0 = true
   ·have hrd : readL tag L = .ok l0 := by rw [readL_some hr, if_pos hv]
    rw [hrd] at HRD
    clear hrd
    go_enter Tryz.func66, Tryz.ntmps66
    go_wp2_with fail
    refine HRD.out.mono ?_
    rintro e w1 ⟨sp1, cap1, rfl, ho1, hb1⟩
    have HD1 := zh (HD.out.below hb1)
    have HT1 : Hid (Turn gd w w1) := Turn.of hb1
    have HO1 := zh (OwnE.base ho1 HBW.out)
    have HRQ := zh (fun f => require_any gd B x m v f w1 HD1.out)
    clear hb1 HRD HD ho1
    go_wp2_with fail
    refine (HRQ.out true).mono ?_
    rintro e w2 ⟨rfl, hd2, ht2⟩
    have HD2 := zh hd2
    have HT2 : Hid (Turn gd w w2) := HT1.out.trans ht2
    have HO2 : Hid (OwnE w2 B (.slice sp1 l0.length cap1) l0) := ⟨own_keptQ HO1.out.1 fun g cur _ hc => ht2.block g (Array.getElem?_eq_some_iff.1 hc).1 (by
     rintro rfl
     rw [HD1.out.row] at hc
     injection hc with hc
     injection hc with _ hc _
     revert hc; decide), HO1.out.2⟩
    have cS := (HD2.out.cell (j := 9) rfl).1
    have fS := (HD2.out.cell (j := 9) rfl).2
    have HO3 : Hid (OwnE (w2.setCell ⟨gd, 9, none⟩ (.bool v)) B (.slice sp1 l0.length cap1) l0) := ⟨own_setD HO2.out.1 HD2.out.row (by decide), HO2.out.2⟩
    have HD3 := zh (HD2.out.set 9 (.bool v) x (m || !true) v rfl HD2.out.c HD2.out.v HD2.out.m HD2.out.p)
    have HT3 : Hid (Turn gd w (w2.setCell ⟨gd, 9, none⟩ (.bool v))) := HT2.out.trans (Turn.tick _ _ _ _)
    clear hd2 ht2 HRQ HT1 HT2 HD2 HD1 HO1 HO2
    have HR := zh hr; have HV := zh hv
    clear hr hv
    cases v
    all_goals
     go_wp2_with fail
     go_ret
     exact ⟨sp1, l0.length, cap1, l0, _, _, rfl, HT3.out, HD3.out, ⟨HO3.out, rfl⟩, by rw [HR.out] <;> simp, fun l1 h1 => by rw [HR.out] at h1; injection h1 with h1; subst h1; exact ⟨fun _ => ⟨rfl, rfl⟩, fun h2 => absurd (HV.out.symm.trans h2) (by decide)⟩⟩
   ·have hrd : readL tag L = .error 1 := by rw [readL_some hr, if_neg hv]
    rw [hrd] at HRD
    clear hrd
    go_enter Tryz.func66, Tryz.ntmps66
    go_wp2_with fail
    refine HRD.out.mono ?_
    rintro e w1 ⟨rfl, hb1⟩
    have HD1 := zh (HD.out.below hb1)
    have HT1 : Hid (Turn gd w w1) := Turn.of hb1
    have HRQ := zh (fun f => require_any gd B x m v f w1 HD1.out)
    clear hb1 HRD HD
    go_wp2_with fail
    refine (HRQ.out true).mono ?_
    rintro e w2 ⟨rfl, hd2, ht2⟩
    have HD2 := zh hd2
    have HT2 : Hid (Turn gd w w2) := HT1.out.trans ht2
    have cS := (HD2.out.cell (j := 9) rfl).1
    have fS := (HD2.out.cell (j := 9) rfl).2
    have HD3 := zh (HD2.out.set 9 (.bool true) x (m || !true) true rfl HD2.out.c HD2.out.v HD2.out.m HD2.out.p)
    have HT3 : Hid (Turn gd w (w2.setCell ⟨gd, 9, none⟩ (.bool true))) := HT2.out.trans (Turn.tick _ _ _ _)
    clear hd2 ht2 HRQ HT1 HT2 HD2 HD1
    have HR := zh hr; have HV := zh hv
    clear hr hv
    cases v
    all_goals
     go_wp2_with fail
     go_ret
     exact ⟨none, 0, 0, [], _, true, rfl, HT3.out, HD3.out, ⟨⟨World.ownsRow_nil _ _ _ _, by simp⟩, rfl⟩, by rw [HR.out] <;> simp, fun l1 h1 => by rw [HR.out] at h1; injection h1 with h1; subst h1; exact ⟨fun h2 => absurd h2 HV.out, fun _ => rfl⟩⟩
end Go.Proofs.YtecllfbadciaoaaGreatDoor
