/-
  Stores: the walk of the statements' filled: a store in order, with right digests, of at most twelve blobs.
-/
import Derived.Test.YtdjknefbaclleaaGreatDoorGz
namespace Go.Proofs.YtdjknefbaclleaaGreatDoor
open Go.RowKit

theorem put_sto {w3 w4 : World} {base : Nat} {gs : Option Addr} {ns cs : Nat} {l : List Bl} {x : Bl} {e : Ending} (hs : Sto w3 base gs ns cs l) (hln : l.length = ns) (hg : GoodP (l.map bp)) (hxd : x.d = shb x.b) (hx : OwnU w3 base x) (hxs : x.b.length ≤ 262144) (hbase : base ≤ w3.heap.size) (hp : PutOk gs ns cs l x w3.heap.size e w4) (hb : Below w3.heap.size w3 w4) :
    ∃ gs' ns' cs' l', e = .returned (.tuple #[.slice gs' ns' cs', .agg ((x.d).map (Value.int .u8)).toArray, .int .i64 0]) ∧ l'.length = ns' ∧ Sto w4 base gs' ns' cs' l' ∧ GoodP (l'.map bp) ∧ (∀ y ∈ l, ∃ z ∈ l', z.d = y.d) ∧ (∃ z ∈ l', z.d = x.d) ∧ ns' ≤ ns + 1 := by
  rcases hp with ⟨he, hy⟩ | ⟨hno, sp', cap', k, he, h1, h2, ho⟩
  · exact ⟨gs, ns, cs, l, he, hln, hs.below hb, hg, fun y hy => ⟨y, hy, rfl⟩, hy, Nat.le_succ _⟩
  · refine ⟨sp', ns + 1, cap', l.take k ++ x :: l.drop k, he, ?_, ⟨ho.base hbase, fun y hy => ?_⟩, good_ins hg hxd hxs h1 h2 hno, fun y hy => ⟨y, ?_, rfl⟩, ⟨x, by simp, rfl⟩, Nat.le_refl _⟩
    · have : (l.take k).length + (l.drop k).length = l.length := by rw [← List.length_append, List.take_append_drop]
      rw [List.length_append, List.length_cons]; omega
    · rcases List.mem_append.1 hy with hy | hy
      · exact (hs.dat y (List.mem_of_mem_take hy)).below hb
      · rcases List.mem_cons.1 hy with rfl | hy
        · exact hx.below hb
        · exact (hs.dat y (List.mem_of_mem_drop hy)).below hb
    · rw [← List.take_append_drop k l] at hy
      rcases List.mem_append.1 hy with hy | hy
      · exact List.mem_append_left _ hy
      · exact List.mem_append_right _ (List.mem_cons_of_mem _ hy)
/-- what filled makes -/
structure Fil (w : World) (base : Nat) (gs : Option Addr) (ns cs : Nat) (gd : Option Addr) (nd cd : Nat) (l : List Bl) (ds : List (List Int)) : Prop where
  len : l.length = ns
  dlen : ds.length = nd
  sto : Sto w base gs ns cs l
  dg : OwnDg w base (.slice gd nd cd) ds
  good : GoodP (l.map bp)
  all : ∀ d ∈ ds, ∃ y ∈ l, y.d = d
  few : ns ≤ nd
set_option maxRecDepth 100000 in
set_option maxHeartbeats 4000000 in
theorem filled_any (pa : Option Addr) (np ncap : Nat) (ls : List Nl) (w : World) (hl : NlsIn w w.heap.size pa np ncap ls) :
    Calls Tryz.prog 4 #[.slice pa np ncap] w fun e w' => ∃ gs ns cs gd nd cd l ds, e = .returned (.tuple #[.slice gs ns cs, .slice gd nd cd]) ∧ Fil w' w.heap.size gs ns cs gd nd cd l ds ∧ nd ≤ 12 ∧ Below w.heap.size w w' := by
  have HL := Lib.hid hl
  have hnp := hl.short
  clear hl
  go_enter Tryz.func4, Tryz.ntmps4
  go_wp2_with fail
  go_loopw [4, 5, 6] (fun v4 v5 v6 wr => ∃ (i ns cs cd : Nat) (gs gd : Option Addr) (l : List Bl) (ds : List (List Int)), v4 = .slice gs ns cs ∧ v5 = .slice gd i cd ∧ v6 = .int .i64 i ∧ i ≤ np ∧ i ≤ 12 ∧ Hid (Fil wr w.heap.size gs ns cs gd i cd l ds ∧ Below w.heap.size w wr)) (fun _ _ v6 _ => np - (intOf v6).toNat)
  case atStart => exact ⟨0, 0, 0, 0, none, none, [], [], rfl, rfl, rfl, Nat.zero_le _, Nat.zero_le _, ⟨rfl, rfl, Sto.nil _ _, OwnDg.nil _ _, GoodP.nil, fun d hd => (by cases hd), Nat.le_refl _⟩, Below.refl _ _⟩
  case round =>
    obtain ⟨i, ns, cs, cd, gs, gd, l, ds, rfl, rfl, rfl, hi, hi12, H⟩ := hrel
    have HF := Lib.hid H.out.1; have HB := Lib.hid H.out.2
    clear H
    by_cases hgo : i < np ∧ i < 12
    · have hg1 : decide ((i : Int) < (np : Int)) = true := by simp; omega
      have hg2 : decide ((i : Int) < 12) = true := by simp; omega
      have p1 : (0 : Int) ≤ (i : Int) := by omega
      have p2 : (i : Int) < (np : Int) := by omega
      obtain ⟨pb, po, rfl, hpb, hpc, hpr⟩ := HL.out.cells (by omega)
      obtain ⟨q, hq⟩ : ∃ q, ls[i]? = some q := ⟨ls[i]'(by have := HL.out.len; omega), List.getElem?_eq_getElem _⟩
      have HQC := Lib.hid (hpr i q hq); have HPB := Lib.hid hpb
      have HQ := Lib.hid (HL.out.each q (List.mem_of_getElem? hq))
      have hqn := HQ.out.short
      have hi2 := hgo.2
      clear hpr hq hpb hgo
      go_wp2_with fail
      refine (refNumber_any (i : Int) (by omega) (by omega) wr).mono ?_
      rintro e w1 ⟨rfl, b1⟩
      have HF1 := Lib.hid (show Sto w1 w.heap.size gs ns cs l ∧ OwnDg w1 w.heap.size (.slice gd i cd) ds from ⟨HF.out.sto.below b1, HF.out.dg.below b1⟩)
      have HB1 := Lib.hid (HB.out.trans (b1.mono HB.out.size))
      clear b1
      generalize (⟨(Lib.itoa (i : Int)).toArray⟩ : ByteArray) = num at *
      go_wp2_with fail
      generalize hwb : World.alloc w1 _ = wb
      have hrow := heap_alloc_new w1 (.cells #[.string ⟨#[110, 111, 100, 101]⟩, .string num] 9)
      rw [hwb] at hrow
      have hbb : Below w1.heap.size w1 wb := by rw [← hwb]; exact (Below.refl _ _).alloc (Nat.le_refl _) _
      have HLI0 := Lib.hid (OwnSt.two wb w1.heap.size w1.heap.size ⟨#[110, 111, 100, 101]⟩ num hrow (Nat.le_refl _))
      have HBB := Lib.hid hbb
      have HSB := Lib.hid (show w1.heap.size ≤ wb.heap.size from hbb.size)
      clear hwb hrow hbb
      generalize hb1e : w1.heap.size = b1 at *
      have HBE1 := Lib.hid hb1e
      clear hb1e
      go_loopw [7, 8] (fun v7 v8 wr => ∃ (k nl cl : Nat) (gl : Option Addr) (ws : List ByteArray), v7 = .slice gl nl cl ∧ v8 = .int .i64 k ∧ k ≤ 4 ∧ nl = k + 2 ∧ Hid (ws.length = nl ∧ OwnSt wr b1 (.slice gl nl cl) ws ∧ Below b1 w1 wr)) (fun _ v8 _ => 4 - (intOf v8).toNat)
      case atStart => exact ⟨0, 2, 2, some ⟨b1, 0, none⟩, [⟨#[110, 111, 100, 101]⟩, num], rfl, rfl, by omega, rfl, rfl, HLI0.out, HBB.out⟩
      case round =>
        clear HLI0 HBB
        obtain ⟨k, nl, cl, gl, ws, rfl, rfl, hk4, hnl, H⟩ := hrel
        subst hnl
        have HWL := Lib.hid H.out.1; have HOL := Lib.hid H.out.2.1; have HBK := Lib.hid H.out.2.2
        clear H
        have HBW := Lib.hid (HB1.out.trans (HBK.out.mono (by have := HBE1.out; have := HB1.out.size; omega)))
        have HFW := Lib.hid (show Sto wr w.heap.size gs ns cs l ∧ OwnDg wr w.heap.size (.slice gd i cd) ds by
          have hb := HBK.out; rw [← HBE1.out] at hb
          exact ⟨HF1.out.1.below hb, HF1.out.2.below hb⟩)
        have hqc : wr.cell? ⟨pb, po + i, none⟩ = some (.slice q.sp q.n q.cap) := (HBW.out.cell (p := ⟨pb, po + i, none⟩) HPB.out).trans HQC.out
        have k0 : (0 : Int) ≤ (k : Int) := by omega
        by_cases hc : k < q.n ∧ k < 4 ∧ 0 < i
        · have c1 : decide ((k : Int) < (q.n : Int)) = true := by simp; omega
          have c2 : decide ((k : Int) < 4) = true := by simp; omega
          have c3 : decide ((i : Int) > 0) = true := by simp; omega
          have k1 : (k : Int) < (q.n : Int) := by omega
          obtain ⟨qb, qo, hqs, hqb, hqcap, hqr⟩ := HQ.out.cells (by omega)
          obtain ⟨v, hv⟩ : ∃ v, q.l[k]? = some v := ⟨q.l[k]'(by have := HQ.out.len; omega), List.getElem?_eq_getElem _⟩
          have hvc : wr.cell? ⟨qb, qo + k, none⟩ = some (.int .i64 v) := (HBW.out.cell (p := ⟨qb, qo + k, none⟩) hqb).trans (hqr k v hv)
          have hvw := HQ.out.wide v (List.mem_of_getElem? hv)
          rw [hqs] at hqc
          obtain ⟨r, hr, hre⟩ := idx_val v i (by omega) (by omega)
          have hiz : ((i : Int) == 0) = false := by simp; omega
          obtain ⟨d, gb, go, hd, hdo, hgd, hgb, hgcap, hrr⟩ := digs_at (HFW.out.2.digs HF.out.dlen) hr
          subst hgd
          have HDR := Lib.hid hrr
          have HDO := Lib.hid hdo
          have HID := Lib.hid (info_d hdo)
          have r0 : (0 : Int) ≤ (r : Int) := by omega
          have r1 : (r : Int) < (i : Int) := by omega
          clear hqr hv hd hrr hqb hqs
          go_wp2_with (first
            | (refine wpList_load_mid rfl 29 _ rfl gb (go + r * 32) rfl _ _ HDR.out Tryz.underlying29 rfl HID.out ?_))
          refine (refFormat_any d wr HDO.out.1 HDO.out.2).mono ?_
          rintro e w5 ⟨rfl, b5⟩
          have HO5 := Lib.hid (HOL.out.below b5)
          have HB5 := Lib.hid (HBK.out.trans (b5.mono (by have := HBE1.out; have := HBK.out.size; omega)))
          clear b5 hqc hvc
          generalize (⟨([115, 104, 97, 50, 53, 54, 58] ++ hexB d).toArray⟩ : ByteArray) = str at *
          have HY := Lib.hid (show (w5.alloc (.cells #[.string str] 9)).heap[w5.heap.size]? = some (.cells #[.string str] 9 (0, 0)) from heap_alloc_new w5 _)
          have HLE5 := Lib.hid (show b1 ≤ w5.heap.size by have := HBE1.out; have := HB5.out.size; omega)
          go_wp2_with (at_builtin; refine wpList_append_ss rfl (.tmp 45) (.tmp 66) rfl b1 _ ws (k + 2) HWL.out.symm rfl (HO5.out.below ((Below.refl _ _).alloc (Nat.le_refl _) _)) w5.heap.size str rfl HY.out (by omega) (Nat.le_trans HLE5.out (by simp)) ?_; intro g' c' w6 HO6 HB6 HG6)
          have HB7 := Lib.hid ((HB5.out.alloc HLE5.out _).trans HB6.out)
          go_roundw
          case rel => exact ⟨k + 1, k + 2 + 1, c', g', ws ++ [str], rfl, by go_num, by omega, by omega, by rw [List.length_append, HWL.out]; rfl, HO6.out, HB7.out⟩
          case measure => simp [intOf]; omega
        · have HTAIL := True.intro
          rcases (by omega : ¬ k < q.n ∨ (k < q.n ∧ ¬ k < 4) ∨ (k < q.n ∧ k < 4 ∧ ¬ 0 < i)) with hc1 | hc1 | hc1
          · have c1 : decide ((k : Int) < (q.n : Int)) = false := by simp; omega
            have c1p : ¬ (k : Int) < (q.n : Int) := by omega
            have c1n : ¬ k < q.n := hc1
            clear hc hc1
            go_wp2_with fail
            generalize hwl : World.alloc wr _ = wl
            have hrow := heap_alloc_new wr (.cells #[.slice gl (k + 2) cl] 40)
            rw [hwl] at hrow
            have hbl : Below wr.heap.size wr wl := by rw [← hwl]; exact (Below.refl _ _).alloc (Nat.le_refl _) _
            have HLN := Lib.hid (show LinesIn wl wl.heap.size (some ⟨wr.heap.size, 0, none⟩) 1 [⟨gl, k + 2, cl, ws⟩] from ⟨rfl, fun _ => ⟨wr.heap.size, 0, rfl, (Array.getElem?_eq_some_iff.1 hrow).1, fun j hj => by
              obtain rfl : j = 0 := by simpa using hj
              rw [cell_of_row _ _ 0 _ _ _ hrow]; rfl⟩, fun q hq => by
              rw [List.mem_singleton.1 hq]
              exact (HOL.out.below hbl).strs HWL.out⟩)
            have HFL := Lib.hid (show Sto wl w.heap.size gs ns cs l ∧ OwnDg wl w.heap.size (.slice gd i cd) ds from ⟨HFW.out.1.below hbl, HFW.out.2.below hbl⟩)
            have HBL := Lib.hid (HBW.out.trans (hbl.mono HBW.out.size))
            clear hwl hrow hbl
            refine (refEncode_any _ 1 1 [⟨gl, k + 2, cl, ws⟩] wl HLN.out (by omega) (fun q hq => by rw [List.mem_singleton.1 hq]; show k + 2 ≤ _; omega)).mono ?_
            rintro e w3 ⟨v, rfl, ho, b3⟩
            have hle := enc_le (wordsOf [⟨gl, k + 2, cl, ws⟩])
            generalize enc (wordsOf [⟨gl, k + 2, cl, ws⟩]) = en at *
            obtain ⟨en1, by0⟩ := en
            dsimp only at ho hle
            obtain ⟨sp3, c3, rfl⟩ := own_shapeG ho.out
            have HX := Lib.hid (show OwnU w3 w.heap.size ⟨shb (intsU by0), sp3, by0.length, c3, intsU by0⟩ from ⟨by have := own_lessG ho.out HBL.out.size; rw [cells_ints] at this; exact this, intsU_byt _⟩)
            have HF3 := Lib.hid (show Sto w3 w.heap.size gs ns cs l ∧ OwnDg w3 w.heap.size (.slice gd i cd) ds from ⟨HFL.out.1.below b3, HFL.out.2.below b3⟩)
            have HB3 := Lib.hid (HBL.out.trans (b3.mono HBL.out.size))
            have HIL := Lib.hid (intsU_len by0)
            clear ho b3 hqc
            generalize intsU by0 = bi at *
            generalize by0.length = m at *
            have hns : ns ≤ 12 := by have := HF.out.few; omega
            have HPUT := Lib.hid (rput_ok gs ns cs l sp3 m c3 bi w3 (HF3.out.1.bls HF.out.len) HF3.out.1.own.nilcap (HF.out.good.vld (by rw [List.length_map, HF.out.len]; omega)) (by omega) HX.out.dat.src HX.out.dat.nil hle)
            go_wp2_with fail
            refine HPUT.out.mono ?_
            rintro e w4 ⟨hput, b4⟩
            obtain ⟨gs', ns', cs', l', rfl, hl1, hl2, hl3, hl4, hl5, hl6⟩ := put_sto (x := ⟨shb bi, sp3, m, c3, bi⟩) HF3.out.1 HF.out.len HF.out.good rfl HX.out (by rw [HIL.out]; exact hle) HB3.out.size hput b4
            have HF4 := Lib.hid (show l'.length = ns' ∧ Sto w4 w.heap.size gs' ns' cs' l' ∧ GoodP (l'.map bp) ∧ (∀ y ∈ l, ∃ z ∈ l', z.d = y.d) ∧ (∃ z ∈ l', z.d = shb bi) ∧ ns' ≤ ns + 1 from ⟨hl1, hl2, hl3, hl4, hl5, hl6⟩)
            have HD4 := Lib.hid (HF3.out.2.below b4)
            have HB4 := Lib.hid (HB3.out.trans (b4.mono HB3.out.size))
            clear hput b4 hl1 hl2 hl3 hl4 hl5 hl6
            dsimp only
            have HSO := Lib.hid (shb_ok bi)
            generalize shb bi = sd at *
            have HIS := Lib.hid (info_d HSO.out)
            have HDN := Lib.hid (heap_alloc_new w4 (.cells (Array.replicate 32 (Value.int .u8 0)) 29))
            go_wp2_with (first
              | (refine wpList_store_row rfl 29 _ _ rfl w4.heap.size _ rfl rfl 29 _ HDN.out (by simpa using HIS.out) (by simp [HSO.out.1]) (oneCell_map _ _) ?_; rw [setRow_new]; generalize hw6 : World.alloc w4 _ = w6; have hr6 : w6.rangeAt w4.heap.size 0 (sd.map (Value.int .u8)) := (by rw [← hw6]; exact range_row (pre := []) (post := []) (heap_alloc_new w4 _) (by simp) rfl); have hb6 : Below w4.heap.size w4 w6 := (by rw [← hw6]; exact (Below.refl _ _).alloc (Nat.le_refl _) _); have HR6 := Lib.hid hr6; have HF6 := Lib.hid (HF4.out.2.1.below hb6); have HD6 := Lib.hid (HD4.out.below hb6); have HB6 := Lib.hid (HB4.out.trans (hb6.mono HB4.out.size)); clear hw6 hr6 hb6)
              | (refine wpList_load_mid rfl 29 _ rfl w4.heap.size 0 rfl _ _ HR6.out Tryz.underlying29 rfl HIS.out ?_)
              | (refine wpList_slice_eqG rfl 25 1 [(0, .tmp 83)] rfl [(0, .agg (dv sd))] rfl _ _ (sliceDg _ sd HSO.out) ?_; generalize hw7 : World.alloc w6 _ = w7; have hr7 : w7.rangeAt w6.heap.size 0 (sd.map (Value.int .u8)) := (by rw [← hw7]; exact range_row (pre := []) (post := []) (heap_alloc_new w6 _) (by simp [dv]) rfl); have hb7 : Below w6.heap.size w6 w7 := (by rw [← hw7]; exact (Below.refl _ _).alloc (Nat.le_refl _) _); have HR7 := Lib.hid hr7; have HF7 := Lib.hid (HF6.out.below hb7); have HD7 := Lib.hid (HD6.out.below hb7); have HB7 := Lib.hid (HB6.out.trans (hb7.mono HB6.out.size)); clear hw7 hr7 hb7)
              | (at_builtin; refine wpList_append_dg rfl (.tmp 82) (.tmp 84) rfl w.heap.size _ ds i HF.out.dlen.symm rfl HD7.out w6.heap.size sd rfl HR7.out HSO.out (by omega) HB7.out.size ?_; intro g' c' w8 HO8 HB8 HG8))
            have HF8 := Lib.hid (HF7.out.kept HD7.out HG8.out)
            have HB9 := Lib.hid (HB7.out.trans HB8.out)
            go_roundw
            case rel =>
              refine ⟨i + 1, ns', cs', c', gs', g', l', ds ++ [sd], rfl, rfl, by go_num, by omega, by omega, ⟨HF4.out.1, by rw [List.length_append, HF.out.dlen]; rfl, HF8.out, HO8.out, HF4.out.2.2.1, fun d hd => ?_, by have := HF4.out.2.2.2.2.2; have := HF.out.few; omega⟩, HB9.out⟩
              rcases List.mem_append.1 hd with hd | hd
              · obtain ⟨y, hy, rfl⟩ := HF.out.all d hd
                exact HF4.out.2.2.2.1 y hy
              · rw [List.mem_singleton.1 hd]; exact HF4.out.2.2.2.2.1
            case measure => simp [intOf]; omega
          · have c1 : decide ((k : Int) < (q.n : Int)) = true := by simp; omega
            have c1p : (k : Int) < (q.n : Int) := by omega
            have c1n : k < q.n := hc1.1
            have c2 : decide ((k : Int) < 4) = false := by simp; omega
            have c2p : ¬ (k : Int) < 4 := by omega
            have c2n : ¬ k < 4 := hc1.2
            clear hc hc1
            go_wp2_with fail
            generalize hwl : World.alloc wr _ = wl
            have hrow := heap_alloc_new wr (.cells #[.slice gl (k + 2) cl] 40)
            rw [hwl] at hrow
            have hbl : Below wr.heap.size wr wl := by rw [← hwl]; exact (Below.refl _ _).alloc (Nat.le_refl _) _
            have HLN := Lib.hid (show LinesIn wl wl.heap.size (some ⟨wr.heap.size, 0, none⟩) 1 [⟨gl, k + 2, cl, ws⟩] from ⟨rfl, fun _ => ⟨wr.heap.size, 0, rfl, (Array.getElem?_eq_some_iff.1 hrow).1, fun j hj => by
              obtain rfl : j = 0 := by simpa using hj
              rw [cell_of_row _ _ 0 _ _ _ hrow]; rfl⟩, fun q hq => by
              rw [List.mem_singleton.1 hq]
              exact (HOL.out.below hbl).strs HWL.out⟩)
            have HFL := Lib.hid (show Sto wl w.heap.size gs ns cs l ∧ OwnDg wl w.heap.size (.slice gd i cd) ds from ⟨HFW.out.1.below hbl, HFW.out.2.below hbl⟩)
            have HBL := Lib.hid (HBW.out.trans (hbl.mono HBW.out.size))
            clear hwl hrow hbl
            refine (refEncode_any _ 1 1 [⟨gl, k + 2, cl, ws⟩] wl HLN.out (by omega) (fun q hq => by rw [List.mem_singleton.1 hq]; show k + 2 ≤ _; omega)).mono ?_
            rintro e w3 ⟨v, rfl, ho, b3⟩
            have hle := enc_le (wordsOf [⟨gl, k + 2, cl, ws⟩])
            generalize enc (wordsOf [⟨gl, k + 2, cl, ws⟩]) = en at *
            obtain ⟨en1, by0⟩ := en
            dsimp only at ho hle
            obtain ⟨sp3, c3, rfl⟩ := own_shapeG ho.out
            have HX := Lib.hid (show OwnU w3 w.heap.size ⟨shb (intsU by0), sp3, by0.length, c3, intsU by0⟩ from ⟨by have := own_lessG ho.out HBL.out.size; rw [cells_ints] at this; exact this, intsU_byt _⟩)
            have HF3 := Lib.hid (show Sto w3 w.heap.size gs ns cs l ∧ OwnDg w3 w.heap.size (.slice gd i cd) ds from ⟨HFL.out.1.below b3, HFL.out.2.below b3⟩)
            have HB3 := Lib.hid (HBL.out.trans (b3.mono HBL.out.size))
            have HIL := Lib.hid (intsU_len by0)
            clear ho b3 hqc
            generalize intsU by0 = bi at *
            generalize by0.length = m at *
            have hns : ns ≤ 12 := by have := HF.out.few; omega
            have HPUT := Lib.hid (rput_ok gs ns cs l sp3 m c3 bi w3 (HF3.out.1.bls HF.out.len) HF3.out.1.own.nilcap (HF.out.good.vld (by rw [List.length_map, HF.out.len]; omega)) (by omega) HX.out.dat.src HX.out.dat.nil hle)
            go_wp2_with fail
            refine HPUT.out.mono ?_
            rintro e w4 ⟨hput, b4⟩
            obtain ⟨gs', ns', cs', l', rfl, hl1, hl2, hl3, hl4, hl5, hl6⟩ := put_sto (x := ⟨shb bi, sp3, m, c3, bi⟩) HF3.out.1 HF.out.len HF.out.good rfl HX.out (by rw [HIL.out]; exact hle) HB3.out.size hput b4
            have HF4 := Lib.hid (show l'.length = ns' ∧ Sto w4 w.heap.size gs' ns' cs' l' ∧ GoodP (l'.map bp) ∧ (∀ y ∈ l, ∃ z ∈ l', z.d = y.d) ∧ (∃ z ∈ l', z.d = shb bi) ∧ ns' ≤ ns + 1 from ⟨hl1, hl2, hl3, hl4, hl5, hl6⟩)
            have HD4 := Lib.hid (HF3.out.2.below b4)
            have HB4 := Lib.hid (HB3.out.trans (b4.mono HB3.out.size))
            clear hput b4 hl1 hl2 hl3 hl4 hl5 hl6
            dsimp only
            have HSO := Lib.hid (shb_ok bi)
            generalize shb bi = sd at *
            have HIS := Lib.hid (info_d HSO.out)
            have HDN := Lib.hid (heap_alloc_new w4 (.cells (Array.replicate 32 (Value.int .u8 0)) 29))
            go_wp2_with (first
              | (refine wpList_store_row rfl 29 _ _ rfl w4.heap.size _ rfl rfl 29 _ HDN.out (by simpa using HIS.out) (by simp [HSO.out.1]) (oneCell_map _ _) ?_; rw [setRow_new]; generalize hw6 : World.alloc w4 _ = w6; have hr6 : w6.rangeAt w4.heap.size 0 (sd.map (Value.int .u8)) := (by rw [← hw6]; exact range_row (pre := []) (post := []) (heap_alloc_new w4 _) (by simp) rfl); have hb6 : Below w4.heap.size w4 w6 := (by rw [← hw6]; exact (Below.refl _ _).alloc (Nat.le_refl _) _); have HR6 := Lib.hid hr6; have HF6 := Lib.hid (HF4.out.2.1.below hb6); have HD6 := Lib.hid (HD4.out.below hb6); have HB6 := Lib.hid (HB4.out.trans (hb6.mono HB4.out.size)); clear hw6 hr6 hb6)
              | (refine wpList_load_mid rfl 29 _ rfl w4.heap.size 0 rfl _ _ HR6.out Tryz.underlying29 rfl HIS.out ?_)
              | (refine wpList_slice_eqG rfl 25 1 [(0, .tmp 83)] rfl [(0, .agg (dv sd))] rfl _ _ (sliceDg _ sd HSO.out) ?_; generalize hw7 : World.alloc w6 _ = w7; have hr7 : w7.rangeAt w6.heap.size 0 (sd.map (Value.int .u8)) := (by rw [← hw7]; exact range_row (pre := []) (post := []) (heap_alloc_new w6 _) (by simp [dv]) rfl); have hb7 : Below w6.heap.size w6 w7 := (by rw [← hw7]; exact (Below.refl _ _).alloc (Nat.le_refl _) _); have HR7 := Lib.hid hr7; have HF7 := Lib.hid (HF6.out.below hb7); have HD7 := Lib.hid (HD6.out.below hb7); have HB7 := Lib.hid (HB6.out.trans (hb7.mono HB6.out.size)); clear hw7 hr7 hb7)
              | (at_builtin; refine wpList_append_dg rfl (.tmp 82) (.tmp 84) rfl w.heap.size _ ds i HF.out.dlen.symm rfl HD7.out w6.heap.size sd rfl HR7.out HSO.out (by omega) HB7.out.size ?_; intro g' c' w8 HO8 HB8 HG8))
            have HF8 := Lib.hid (HF7.out.kept HD7.out HG8.out)
            have HB9 := Lib.hid (HB7.out.trans HB8.out)
            go_roundw
            case rel =>
              refine ⟨i + 1, ns', cs', c', gs', g', l', ds ++ [sd], rfl, rfl, by go_num, by omega, by omega, ⟨HF4.out.1, by rw [List.length_append, HF.out.dlen]; rfl, HF8.out, HO8.out, HF4.out.2.2.1, fun d hd => ?_, by have := HF4.out.2.2.2.2.2; have := HF.out.few; omega⟩, HB9.out⟩
              rcases List.mem_append.1 hd with hd | hd
              · obtain ⟨y, hy, rfl⟩ := HF.out.all d hd
                exact HF4.out.2.2.2.1 y hy
              · rw [List.mem_singleton.1 hd]; exact HF4.out.2.2.2.2.1
            case measure => simp [intOf]; omega
          · have c1 : decide ((k : Int) < (q.n : Int)) = true := by simp; omega
            have c2 : decide ((k : Int) < 4) = true := by simp; omega
            have c1p : (k : Int) < (q.n : Int) := by omega
            have c1n : k < q.n := hc1.1
            have c2p : (k : Int) < 4 := by omega
            have c2n : k < 4 := hc1.2.1
            have c3 : decide ((i : Int) > 0) = false := by simp; omega
            have c3p : ¬ 0 < (i : Int) := by omega
            have c3n : ¬ 0 < i := hc1.2.2
            clear hc hc1
            go_wp2_with fail
            generalize hwl : World.alloc wr _ = wl
            have hrow := heap_alloc_new wr (.cells #[.slice gl (k + 2) cl] 40)
            rw [hwl] at hrow
            have hbl : Below wr.heap.size wr wl := by rw [← hwl]; exact (Below.refl _ _).alloc (Nat.le_refl _) _
            have HLN := Lib.hid (show LinesIn wl wl.heap.size (some ⟨wr.heap.size, 0, none⟩) 1 [⟨gl, k + 2, cl, ws⟩] from ⟨rfl, fun _ => ⟨wr.heap.size, 0, rfl, (Array.getElem?_eq_some_iff.1 hrow).1, fun j hj => by
              obtain rfl : j = 0 := by simpa using hj
              rw [cell_of_row _ _ 0 _ _ _ hrow]; rfl⟩, fun q hq => by
              rw [List.mem_singleton.1 hq]
              exact (HOL.out.below hbl).strs HWL.out⟩)
            have HFL := Lib.hid (show Sto wl w.heap.size gs ns cs l ∧ OwnDg wl w.heap.size (.slice gd i cd) ds from ⟨HFW.out.1.below hbl, HFW.out.2.below hbl⟩)
            have HBL := Lib.hid (HBW.out.trans (hbl.mono HBW.out.size))
            clear hwl hrow hbl
            refine (refEncode_any _ 1 1 [⟨gl, k + 2, cl, ws⟩] wl HLN.out (by omega) (fun q hq => by rw [List.mem_singleton.1 hq]; show k + 2 ≤ _; omega)).mono ?_
            rintro e w3 ⟨v, rfl, ho, b3⟩
            have hle := enc_le (wordsOf [⟨gl, k + 2, cl, ws⟩])
            generalize enc (wordsOf [⟨gl, k + 2, cl, ws⟩]) = en at *
            obtain ⟨en1, by0⟩ := en
            dsimp only at ho hle
            obtain ⟨sp3, c3, rfl⟩ := own_shapeG ho.out
            have HX := Lib.hid (show OwnU w3 w.heap.size ⟨shb (intsU by0), sp3, by0.length, c3, intsU by0⟩ from ⟨by have := own_lessG ho.out HBL.out.size; rw [cells_ints] at this; exact this, intsU_byt _⟩)
            have HF3 := Lib.hid (show Sto w3 w.heap.size gs ns cs l ∧ OwnDg w3 w.heap.size (.slice gd i cd) ds from ⟨HFL.out.1.below b3, HFL.out.2.below b3⟩)
            have HB3 := Lib.hid (HBL.out.trans (b3.mono HBL.out.size))
            have HIL := Lib.hid (intsU_len by0)
            clear ho b3 hqc
            generalize intsU by0 = bi at *
            generalize by0.length = m at *
            have hns : ns ≤ 12 := by have := HF.out.few; omega
            have HPUT := Lib.hid (rput_ok gs ns cs l sp3 m c3 bi w3 (HF3.out.1.bls HF.out.len) HF3.out.1.own.nilcap (HF.out.good.vld (by rw [List.length_map, HF.out.len]; omega)) (by omega) HX.out.dat.src HX.out.dat.nil hle)
            go_wp2_with fail
            refine HPUT.out.mono ?_
            rintro e w4 ⟨hput, b4⟩
            obtain ⟨gs', ns', cs', l', rfl, hl1, hl2, hl3, hl4, hl5, hl6⟩ := put_sto (x := ⟨shb bi, sp3, m, c3, bi⟩) HF3.out.1 HF.out.len HF.out.good rfl HX.out (by rw [HIL.out]; exact hle) HB3.out.size hput b4
            have HF4 := Lib.hid (show l'.length = ns' ∧ Sto w4 w.heap.size gs' ns' cs' l' ∧ GoodP (l'.map bp) ∧ (∀ y ∈ l, ∃ z ∈ l', z.d = y.d) ∧ (∃ z ∈ l', z.d = shb bi) ∧ ns' ≤ ns + 1 from ⟨hl1, hl2, hl3, hl4, hl5, hl6⟩)
            have HD4 := Lib.hid (HF3.out.2.below b4)
            have HB4 := Lib.hid (HB3.out.trans (b4.mono HB3.out.size))
            clear hput b4 hl1 hl2 hl3 hl4 hl5 hl6
            dsimp only
            have HSO := Lib.hid (shb_ok bi)
            generalize shb bi = sd at *
            have HIS := Lib.hid (info_d HSO.out)
            have HDN := Lib.hid (heap_alloc_new w4 (.cells (Array.replicate 32 (Value.int .u8 0)) 29))
            go_wp2_with (first
              | (refine wpList_store_row rfl 29 _ _ rfl w4.heap.size _ rfl rfl 29 _ HDN.out (by simpa using HIS.out) (by simp [HSO.out.1]) (oneCell_map _ _) ?_; rw [setRow_new]; generalize hw6 : World.alloc w4 _ = w6; have hr6 : w6.rangeAt w4.heap.size 0 (sd.map (Value.int .u8)) := (by rw [← hw6]; exact range_row (pre := []) (post := []) (heap_alloc_new w4 _) (by simp) rfl); have hb6 : Below w4.heap.size w4 w6 := (by rw [← hw6]; exact (Below.refl _ _).alloc (Nat.le_refl _) _); have HR6 := Lib.hid hr6; have HF6 := Lib.hid (HF4.out.2.1.below hb6); have HD6 := Lib.hid (HD4.out.below hb6); have HB6 := Lib.hid (HB4.out.trans (hb6.mono HB4.out.size)); clear hw6 hr6 hb6)
              | (refine wpList_load_mid rfl 29 _ rfl w4.heap.size 0 rfl _ _ HR6.out Tryz.underlying29 rfl HIS.out ?_)
              | (refine wpList_slice_eqG rfl 25 1 [(0, .tmp 83)] rfl [(0, .agg (dv sd))] rfl _ _ (sliceDg _ sd HSO.out) ?_; generalize hw7 : World.alloc w6 _ = w7; have hr7 : w7.rangeAt w6.heap.size 0 (sd.map (Value.int .u8)) := (by rw [← hw7]; exact range_row (pre := []) (post := []) (heap_alloc_new w6 _) (by simp [dv]) rfl); have hb7 : Below w6.heap.size w6 w7 := (by rw [← hw7]; exact (Below.refl _ _).alloc (Nat.le_refl _) _); have HR7 := Lib.hid hr7; have HF7 := Lib.hid (HF6.out.below hb7); have HD7 := Lib.hid (HD6.out.below hb7); have HB7 := Lib.hid (HB6.out.trans (hb7.mono HB6.out.size)); clear hw7 hr7 hb7)
              | (at_builtin; refine wpList_append_dg rfl (.tmp 82) (.tmp 84) rfl w.heap.size _ ds i HF.out.dlen.symm rfl HD7.out w6.heap.size sd rfl HR7.out HSO.out (by omega) HB7.out.size ?_; intro g' c' w8 HO8 HB8 HG8))
            have HF8 := Lib.hid (HF7.out.kept HD7.out HG8.out)
            have HB9 := Lib.hid (HB7.out.trans HB8.out)
            go_roundw
            case rel =>
              refine ⟨i + 1, ns', cs', c', gs', g', l', ds ++ [sd], rfl, rfl, by go_num, by omega, by omega, ⟨HF4.out.1, by rw [List.length_append, HF.out.dlen]; rfl, HF8.out, HO8.out, HF4.out.2.2.1, fun d hd => ?_, by have := HF4.out.2.2.2.2.2; have := HF.out.few; omega⟩, HB9.out⟩
              rcases List.mem_append.1 hd with hd | hd
              · obtain ⟨y, hy, rfl⟩ := HF.out.all d hd
                exact HF4.out.2.2.2.1 y hy
              · rw [List.mem_singleton.1 hd]; exact HF4.out.2.2.2.2.1
            case measure => simp [intOf]; omega
    · rcases (by omega : ¬ i < np ∨ (i < np ∧ ¬ i < 12)) with h1 | ⟨h1, h2⟩
      · have hg1 : decide ((i : Int) < (np : Int)) = false := by simp; omega
        go_wp2_with fail
        go_ret2
        exact ⟨gs, ns, cs, gd, i, cd, l, ds, rfl, HF.out, hi12, HB.out⟩
      · have hg1 : decide ((i : Int) < (np : Int)) = true := by simp; omega
        have hg2 : decide ((i : Int) < 12) = false := by simp; omega
        go_wp2_with fail
        go_ret2
        exact ⟨gs, ns, cs, gd, i, cd, l, ds, rfl, HF.out, hi12, HB.out⟩
end Go.Proofs.YtdjknefbaclleaaGreatDoor
