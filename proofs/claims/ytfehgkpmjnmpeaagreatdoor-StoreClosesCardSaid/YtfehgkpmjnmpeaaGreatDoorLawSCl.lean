/-
  StoreCloses: the walk of the law.
-/
import Derived.Test.YtfehgkpmjnmpeaaGreatDoorGx
import Derived.Test.YtfehgkpmjnmpeaaGreatDoorStsL
import Derived.Test.YtfehgkpmjnmpeaaGreatDoorGj
import Derived.Test.YtfehgkpmjnmpeaaGreatDoorGy
namespace Go.Proofs.YtfehgkpmjnmpeaaGreatDoor
open Go.RowKit

theorem lnkB_small (x : Bl) : (lnkB x).length ≤ 262144 := by
  by_cases h : x.b.length ≤ 262144
  · exact Nat.le_trans (lnkB_len x) h
  · unfold lnkB lnkD
    have hz : (⟨(uOf x.b).toArray⟩ : ByteArray).size = x.b.length := by rw [Lib.size_eq]; simp [uOf]
    have hd : decC ⟨(uOf x.b).toArray⟩ = (3, []) := by unfold decC; rw [if_pos (by omega)]
    rw [hd]
    simp [lnk]
theorem pot_le (P : List (List Int)) : ∀ L : List Bl, pot L P ≤ L.length * 262144
  | [] => by simp [pot]
  | x :: L => by
    have h := pot_le P L
    have h1 := lnkB_small x
    unfold pot at h ⊢
    rw [List.map_cons, List.sum_cons, List.length_cons]
    split <;> omega
theorem NumsIn.moreC {w : World} {B B' : Nat} {sp : Option Addr} {n cap : Nat} {l : List Int} (h : NumsIn w B sp n cap l) (hB : B ≤ B') : NumsIn w B' sp n cap l :=
  ⟨h.len, fun hn => by
    obtain ⟨b, off, e, hlt, hc, hr⟩ := h.cells hn
    exact ⟨b, off, e, by omega, hc, hr⟩, h.wide, h.short⟩
theorem NlsIn.moreC {w : World} {B B' : Nat} {pa : Option Addr} {np ncap : Nat} {ls : List Nl} (h : NlsIn w B pa np ncap ls) (hB : B ≤ B') : NlsIn w B' pa np ncap ls :=
  ⟨h.len, fun hn => by
    obtain ⟨pb, po, e, hlt, hc, hr⟩ := h.cells hn
    exact ⟨pb, po, e, by omega, hc, hr⟩, fun q hq => (h.each q hq).moreC hB, h.short⟩
set_option maxRecDepth 100000 in
set_option maxHeartbeats 8000000 in
theorem storeCloses_any (sp : Option Addr) (n cap : Nat) (l : List Bl) (rp : Option Addr) (rn rc : Nat) (R : List (List Int)) (pa : Option Addr) (np ncap : Nat) (ls : List Nl) (w : World) (hl : BlsIn w w.heap.size sp n cap l) (hn : n ≤ 9223372036854775807) (hd40 : ∀ x ∈ l, x.n ≤ 9223372036854775807) (hR : DigsIn w w.heap.size rp rn rc R) (hrnil : rp = none → rc = 0) (hrn : rn ≤ 9223372036854775807) (hnl : NlsIn w w.heap.size pa np ncap ls) (hk : KayIn w) (hk0 : 1 < w.heap.size) :
    Calls Tryz.prog 3 #[.slice sp n cap, .slice rp rn rc, .slice pa np ncap] w fun e w' => e = .returned (.bool true) ∧ Below w.heap.size w w' := by
  have HLI := Lib.hid (lightW_any sp n cap l w hl hn hd40)
  have HL := Lib.hid hl; have HR := Lib.hid hR; have HRN := Lib.hid hrnil; have HNL := Lib.hid hnl; have HK := Lib.hid hk; have HK0 := Lib.hid hk0
  clear hl hR hrnil hnl hk hk0 hd40
  go_enter Tryz.func3, Tryz.ntmps3
  go_wp2_with fail
  refine HLI.out.mono ?_
  rintro e w1 ⟨b, rfl, hb300, b1⟩
  have HB1 := Lib.hid b1; clear b1 HLI
  cases b
  · clear hb300
    go_wp2_with fail
    go_ret
    exact ⟨rfl, HB1.out⟩
  have h300 := hb300 rfl
  clear hb300 hn
  by_cases h50 : rn ≤ 50
  case neg =>
    have hd : decide ((rn : Int) > 50) = true := by simp; omega
    go_wp2_with fail
    go_ret
    exact ⟨rfl, HB1.out⟩
  clear hrn
  have hd : decide ((rn : Int) > 50) = false := by simp; omega
  go_wp2_with fail
  refine (filled_any pa np ncap ls w1 ((HNL.out.below HB1.out (Nat.le_refl _)).moreC HB1.out.size)).mono ?_
  rintro e w2 ⟨gs, ns, cs, gd, nd, cd, lx, ds, rfl, hfil, hnd, b2⟩
  have HB2 := Lib.hid (HB1.out.trans (b2.mono HB1.out.size))
  have hns : ns ≤ 12 := by have := hfil.few; omega
  have HLX2 := Lib.hid (hfil.sto.bls hfil.len)
  have HDS2 := Lib.hid (hfil.dg.digs hfil.dlen)
  have HPT := Lib.hid (show rn + 1 + pot lx [] ≤ 80000000 by have h1 := pot_le [] lx; rw [hfil.len] at h1; omega)
  have HPL := Lib.hid (show rn + pot l [] ≤ 80000000 by have h1 := pot_le [] l; rw [HL.out.len] at h1; omega)
  clear hfil b2 HNL
  go_wp2_with fail
  refine (clo_any sp n cap l rp rn rc R w2 (HL.out.up HB2.out (Nat.le_refl _)) (HR.out.upD HB2.out HB2.out.size) HRN.out (by omega) HPL.out).mono ?_
  rintro e w3 ⟨⟨gp, np1, cp, gm, nm, cm, P, M, rfl, hcd, hdp, hdm, _, _, hbp, hbm⟩, b3⟩
  have HB3 := Lib.hid (HB2.out.trans (b3.mono HB2.out.size))
  have HCD := Lib.hid hcd; have HDP := Lib.hid hdp; have HDM := Lib.hid hdm; have HBP := Lib.hid hbp; have HBM := Lib.hid hbm
  have HLX3 := Lib.hid (HLX2.out.up b3 (Nat.le_refl _))
  have HDS3 := Lib.hid (HDS2.out.upD b3 b3.size)
  clear hcd hdp hdm hbp hbm b3 HLX2 HDS2
  go_wp2_with fail
  refine (rclo_any sp n cap l rp rn rc R w3 (HL.out.up HB3.out (Nat.le_refl _)) (HR.out.upD HB3.out HB3.out.size) (by omega) HPL.out).mono ?_
  rintro e w4 ⟨⟨gp2, np2, cp2, gm2, nm2, cm2, P2, M2, rfl, hcd, hdp, hdm, _, _⟩, b4⟩
  obtain ⟨rfl, rfl⟩ := HCD.out.det hcd
  have HB4 := Lib.hid (HB3.out.trans (b4.mono HB3.out.size))
  have HDP2 := Lib.hid hdp; have HDM2 := Lib.hid hdm
  have HDP4 := Lib.hid (HDP.out.upD b4 b4.size); have HDM4 := Lib.hid (HDM.out.upD b4 b4.size)
  have HLX4 := Lib.hid (HLX3.out.up b4 (Nat.le_refl _))
  have HDS4 := Lib.hid (HDS3.out.upD b4 b4.size)
  clear hcd hdp hdm b4 HLX3 HDS3 HDP HDM HCD
  go_wp2_with fail
  refine (sameD_any gp np1 cp P gp2 np2 cp2 P w4 HDP4.out HDP2.out (by have := HBP.out; omega) rfl).mono ?_
  rintro e w5 ⟨rfl, b5⟩
  have HB5 := Lib.hid (HB4.out.trans (b5.mono HB4.out.size))
  have HDM5 := Lib.hid (HDM4.out.upD b5 b5.size); have HDM52 := Lib.hid (HDM2.out.upD b5 b5.size)
  have HLX5 := Lib.hid (HLX4.out.up b5 (Nat.le_refl _))
  have HDS5 := Lib.hid (HDS4.out.upD b5 b5.size)
  clear b5 HLX4 HDS4 HDP4 HDP2 HDM4 HDM2
  go_wp2_with fail
  refine (sameD_any gm nm cm M gm2 nm2 cm2 M w5 HDM5.out HDM52.out (by have := HBM.out; omega) rfl).mono ?_
  rintro e w6 ⟨rfl, b6⟩
  have HB6 := Lib.hid (HB5.out.trans (b6.mono HB5.out.size))
  have HLX6 := Lib.hid (HLX5.out.up b6 (Nat.le_refl _))
  have HDS6 := Lib.hid (HDS5.out.upD b6 b6.size)
  clear b6 HLX5 HDS5 HDM5 HDM52 HBP HBM HPL
  go_wp2_with fail
  go_loopw [13] (fun i wr => ∃ k : Nat, i = .int .i64 k ∧ k ≤ nd ∧ Hid (BlsIn wr wr.heap.size gs ns cs lx ∧ DigsIn wr wr.heap.size gd nd cd ds ∧ Below w.heap.size w wr)) (fun i _ => nd - (intOf i).toNat)
  case atStart => exact ⟨0, rfl, Nat.zero_le _, HLX6.out, HDS6.out, HB6.out⟩
  case round =>
    clear HLX6 HDS6
    obtain ⟨k, rfl, hk, H⟩ := hrel
    have HLX := Lib.hid H.out.1; have HDS := Lib.hid H.out.2.1; have HBW := Lib.hid H.out.2.2
    clear H
    by_cases hlt : k < nd
    · have hd : decide ((k : Int) < (nd : Int)) = true := by simp; omega
      obtain ⟨d, db, doff, hdk, hd32, rfl, hdb, hdc, hdr⟩ := digs_at HDS.out hlt
      have HD32 := Lib.hid hd32; have HID := Lib.hid (info_d hd32); have HDR := Lib.hid hdr; have HDB := Lib.hid hdb
      have HRL := Lib.hid HR.out.len.symm
      have HRL1 := Lib.hid (show (R ++ [d]).length = rn + 1 by rw [List.length_append, HR.out.len]; rfl)
      have HRr := Lib.hid (HR.out.upD HBW.out HBW.out.size)
      have p1 : (0 : Int) ≤ (k : Int) := by omega
      have p2 : (k : Int) < (nd : Int) := by omega
      clear hd32 hdk hdr hdb hdc
      go_upto_region 11 with fail
      go_cut [9, 10] (fun s9 s10 wx => ∃ (gp : Option Addr) (np1 cp : Nat) (gm : Option Addr) (nm cm : Nat) (P M : List (List Int)), s9 = .slice gp np1 cp ∧ s10 = .slice gm nm cm ∧ Hid (CloD lx (R ++ [d]) P M ∧ DigsIn wx wx.heap.size gp np1 cp P ∧ DigsIn wx wx.heap.size gm nm cm M ∧ np1 ≤ 80000000 ∧ nm ≤ 80000000 ∧ Below wr.heap.size wr wx))
      case first =>
        as_aux_lemma =>
          refine wp_region_held_drew (S := fun w' => Below wr.heap.size wr w') (by kernel_rfl) (Below.refl wr.heap.size wr).drew (fun hHeld => ?_)
          have HB0 := Lib.hid ((Below.refl wr.heap.size wr).drew)
          generalize World.drew wr = w0 at *
          refine wpAnyH_take (i := 0) (oi := _) (v := ?v0n22) rfl (by kernel_rfl) (by kernel_rfl) (by kernel_rfl) (fun _ _ _ h => h) (Or.inl ⟨by rfl, ?hy0n22⟩) (by assumption) ?rest0n22
          case hy0n22 =>
            intro w' hSw
            go_simp
            try with_reducible rfl
          try simp only [Act.put, List.getElem_toArray, List.getElem_cons_succ, List.getElem_cons_zero, List.setIfInBounds_toArray, List.set_cons_zero, List.set_cons_succ]
          refine wpAnyH_take (i := 2) (oi := _) (v := ?v2n23) rfl (by kernel_rfl) (by kernel_rfl) (by kernel_rfl) (fun _ _ _ h => h) (Or.inl ⟨by rfl, ?hy2n23⟩) (by assumption) ?rest2n23
          case hy2n23 =>
            intro w' hSw
            go_simp
            try with_reducible rfl
          try simp only [Act.put, List.getElem_toArray, List.getElem_cons_succ, List.getElem_cons_zero, List.setIfInBounds_toArray, List.set_cons_zero, List.set_cons_succ]
          refine wpAnyH_take (i := 4) (oi := _) (v := ?v4n24) rfl (by kernel_rfl) (by kernel_rfl) (by kernel_rfl) (fun _ _ _ h => h) (Or.inl ⟨by rfl, ?hy4n24⟩) (by assumption) ?rest4n24
          case hy4n24 =>
            intro w' hSw
            go_simp
            try with_reducible rfl
          try simp only [Act.put, List.getElem_toArray, List.getElem_cons_succ, List.getElem_cons_zero, List.setIfInBounds_toArray, List.set_cons_zero, List.set_cons_succ]
          refine wpAnyH_take (i := 5) (oi := _) (v := ?v5n25) rfl (by kernel_rfl) (by kernel_rfl) (by kernel_rfl) (fun _ _ _ h => h) (Or.inl ⟨by rfl, ?hy5n25⟩) (by assumption) ?rest5n25
          case hy5n25 =>
            intro w' hSw
            go_simp
            try with_reducible rfl
          try simp only [Act.put, List.getElem_toArray, List.getElem_cons_succ, List.getElem_cons_zero, List.setIfInBounds_toArray, List.set_cons_zero, List.set_cons_succ]
          refine wpAnyH_take (i := 6) (oi := _) (v := ?v6n26) rfl (by kernel_rfl) (by kernel_rfl) (by kernel_rfl) (fun _ _ _ h => h) (Or.inl ⟨by rfl, ?hy6n26⟩) (by assumption) ?rest6n26
          case hy6n26 =>
            intro w' hSw
            go_simp
            try with_reducible rfl
          try simp only [Act.put, List.getElem_toArray, List.getElem_cons_succ, List.getElem_cons_zero, List.setIfInBounds_toArray, List.set_cons_zero, List.set_cons_succ]
          refine' wpAnyH_take (i := 7) (oi := _) (v := _) rfl (by kernel_rfl) (by kernel_rfl) (by kernel_rfl) (fun _ _ _ h => h) (yieldsIf_load_mid (by rfl) _ _ rfl _ _ rfl _ _ ?hS7n27 Tryz.underlying32 rfl HID.out) (by assumption) ?rest7n27
          case hS7n27 =>
            intro w' hSw
            exact (range_belowG HDR.out hSw HDB.out)
          try simp only [Act.put, List.getElem_toArray, List.getElem_cons_succ, List.getElem_cons_zero, List.setIfInBounds_toArray, List.set_cons_zero, List.set_cons_succ]
          refine wpAnyH_ready (rs := [1, 8]) (by kernel_rfl) (by simp) (AllReadyH.cons (o := _) rfl (fun K hK => ?_) (AllReadyH.cons (o := _) rfl (fun K hK => ?_) AllReadyH.nil))
          · rw [if_pos (by rfl)]
            refine wp_slice_eqB 23 0 [] rfl [] rfl _ _ (build0D _) ?_
            have HGE := Lib.hid (show wr.heap.size ≤ w0.heap.size from HB0.out.size)
            have HOE := Lib.hid ((own0D w0).base HGE.out)
            have HAB := Lib.hid ((Below.refl w0.heap.size w0).alloc (Nat.le_refl _) (.cells #[] 32))
            have HB1 := Lib.hid (HB0.out.alloc HB0.out.size (.cells #[] 32))
            clear HAB
            obtain ⟨ge, hge⟩ : ∃ ge, ge = w0.heap.size := ⟨_, rfl⟩
            rw [← hge] at HGE HOE
            generalize World.alloc w0 _ = w1 at *
            rw [← hge]
            clear hge
            refine hK.out _ _ HB1.out (fun hHeld => ?_)
            clear hK K
            try simp only [Act.put, List.getElem_toArray, List.getElem_cons_succ, List.getElem_cons_zero, List.setIfInBounds_toArray, List.set_cons_zero, List.set_cons_succ]
            refine wpAnyH_ready (rs := [3, 8]) (by kernel_rfl) (by simp) (AllReadyH.cons (o := _) rfl (fun K hK => ?_) (AllReadyH.cons (o := _) rfl (fun K hK => ?_) AllReadyH.nil))
            · rw [if_pos (by rfl)]
              refine wp_append_dgs (.tmp 57) (.tmp 58) rfl wr.heap.size _ [] 0 rfl rfl HOE.out rp rn rc _ R rfl (HRr.out.upD HB1.out HB1.out.size) HRN.out (by omega) HB1.out.size ?_
              intro sp3 c3 w2 HO3 HBx HG3
              have HB2 := Lib.hid (HB1.out.trans HBx.out)
              simp only [Nat.zero_add, List.nil_append] at HO3 ⊢
              clear HBx HG3
              refine hK.out _ _ HB2.out (fun hHeld => ?_)
              clear hK K
              try simp only [Act.put, List.getElem_toArray, List.getElem_cons_succ, List.getElem_cons_zero, List.setIfInBounds_toArray, List.set_cons_zero, List.set_cons_succ]
              refine wpAnyH_ready (rs := [8]) (by kernel_rfl) (by simp) (AllReadyH.cons (o := _) rfl (fun K hK => ?_) AllReadyH.nil)
              rw [if_pos (by rfl)]
              refine wp_slice_eqB 23 1 [(0, .tmp 63)] rfl [(0, .agg (dv d))] rfl _ _ (sliceDg _ d HD32.out) ?_
              have HZ3 := Lib.hid (dv_rowC w2 d)
              have HZL3 := Lib.hid (show w2.heap.size < (w2.alloc (.cells (dv d) 32)).heap.size by simp)
              have HAB := Lib.hid ((Below.refl w2.heap.size w2).alloc (Nat.le_refl _) (.cells (dv d) 32))
              have HB3 := Lib.hid (HB2.out.alloc HB2.out.size (.cells (dv d) 32))
              have HO3b := Lib.hid (HO3.out.below HAB.out)
              clear HO3
              clear HAB
              obtain ⟨gz, hgz⟩ : ∃ gz, gz = w2.heap.size := ⟨_, rfl⟩
              rw [← hgz] at HZ3 HZL3
              generalize World.alloc w2 _ = w3 at *
              rw [← hgz]
              clear hgz
              refine hK.out _ _ HB3.out (fun hHeld => ?_)
              clear hK K
              try simp only [Act.put, List.getElem_toArray, List.getElem_cons_succ, List.getElem_cons_zero, List.setIfInBounds_toArray, List.set_cons_zero, List.set_cons_succ]
              refine wpAnyH_ready (rs := [9]) (by kernel_rfl) (by simp) (AllReadyH.cons (o := _) rfl (fun K hK => ?_) AllReadyH.nil)
              rw [if_pos (by rfl)]
              refine wp_append_dgs (.tmp 59) (.tmp 64) rfl wr.heap.size _ R rn HRL.out rfl HO3b.out (some ⟨gz, 0, none⟩) 1 1 _ [d] rfl (DigsIn.one HZ3.out HZL3.out HD32.out) (fun h => (by cases h)) (by omega) HB3.out.size ?_
              intro sp4 c4 w4 HO4 HBx HG4
              have HB4 := Lib.hid (HB3.out.trans HBx.out)
              clear HBx HG4
              refine hK.out _ _ HB4.out (fun hHeld => ?_)
              clear hK K
              try simp only [Act.put, List.getElem_toArray, List.getElem_cons_succ, List.getElem_cons_zero, List.setIfInBounds_toArray, List.set_cons_zero, List.set_cons_succ]
              refine wpAnyH_ready (rs := [10]) (by kernel_rfl) (by simp) (AllReadyH.cons (o := _) rfl (fun K hK => ?_) AllReadyH.nil)
              go_simp
              with_reducible refine (clo_any gs ns cs lx sp4 (rn + 1) c4 (R ++ [d]) w4 (HLX.out.up HB4.out (Nat.le_refl _)) (HO4.out.digs HRL1.out) HO4.out.nilcap (by omega) HPT.out).mono ?_
              rintro e w9 ⟨⟨gq, nq1, cq, gn, nn, cn, P2, M2, rfl, hcd, hdp, hdm, _, _, hb1, hb2⟩, b9⟩

              have HB9 := Lib.hid (HB4.out.trans (b9.mono HB4.out.size))
              have HRES := Lib.hid (And.intro hcd (And.intro hdp (And.intro hdm (And.intro hb1 hb2))))
              clear hcd hdp hdm b9 hb1 hb2
              go_wp2_with fail
              refine hK.out _ _ HB9.out (fun hHeld => ?_)
              clear hK K
              try simp only [Act.put, List.getElem_toArray, List.getElem_cons_succ, List.getElem_cons_zero, List.setIfInBounds_toArray, List.set_cons_zero, List.set_cons_succ]
              refine wpAnyH_take (i := 11) (oi := _) (v := ?v11n28) rfl (by kernel_rfl) (by kernel_rfl) (by kernel_rfl) (fun _ _ _ h => h) (Or.inl ⟨by rfl, ?hy11n28⟩) (by assumption) ?rest11n28
              case hy11n28 =>
                intro w' hSw
                go_simp
                try with_reducible rfl
              try simp only [Act.put, List.getElem_toArray, List.getElem_cons_succ, List.getElem_cons_zero, List.setIfInBounds_toArray, List.set_cons_zero, List.set_cons_succ]
              refine wpAnyH_take (i := 12) (oi := _) (v := ?v12n29) rfl (by kernel_rfl) (by kernel_rfl) (by kernel_rfl) (fun _ _ _ h => h) (Or.inl ⟨by rfl, ?hy12n29⟩) (by assumption) ?rest12n29
              case hy12n29 =>
                intro w' hSw
                go_simp
                try with_reducible rfl
              try simp only [Act.put, List.getElem_toArray, List.getElem_cons_succ, List.getElem_cons_zero, List.setIfInBounds_toArray, List.set_cons_zero, List.set_cons_succ]
              refine wpAnyH_take (i := 13) (oi := _) (v := ?v13n30) rfl (by kernel_rfl) (by kernel_rfl) (by kernel_rfl) (fun _ _ _ h => h) (Or.inl ⟨by rfl, ?hy13n30⟩) (by assumption) ?rest13n30
              case hy13n30 =>
                intro w' hSw
                go_simp
                try with_reducible rfl
              try simp only [Act.put, List.getElem_toArray, List.getElem_cons_succ, List.getElem_cons_zero, List.setIfInBounds_toArray, List.set_cons_zero, List.set_cons_succ]
              refine wpAnyH_take (i := 14) (oi := _) (v := ?v14n31) rfl (by kernel_rfl) (by kernel_rfl) (by kernel_rfl) (fun _ _ _ h => h) (Or.inl ⟨by rfl, ?hy14n31⟩) (by assumption) ?rest14n31
              case hy14n31 =>
                intro w' hSw
                go_simp
                try with_reducible rfl
              try simp only [Act.put, List.getElem_toArray, List.getElem_cons_succ, List.getElem_cons_zero, List.setIfInBounds_toArray, List.set_cons_zero, List.set_cons_succ]
              refine wpAnyH_take (i := 15) (oi := _) (v := ?v15n32) rfl (by kernel_rfl) (by kernel_rfl) (by kernel_rfl) (fun _ _ _ h => h) (Or.inl ⟨by rfl, ?hy15n32⟩) (by assumption) ?rest15n32
              case hy15n32 =>
                intro w' hSw
                go_simp
                try with_reducible rfl
              try simp only [Act.put, List.getElem_toArray, List.getElem_cons_succ, List.getElem_cons_zero, List.setIfInBounds_toArray, List.set_cons_zero, List.set_cons_succ]
              refine wpAnyH_done (by kernel_rfl) ?_ _
              clear hHeld
              go_wp2_with fail
              go_meet
              exact ⟨gq, nq1, cq, gn, nn, cn, P2, M2, rfl, rfl, HRES.out.1, HRES.out.2.1, HRES.out.2.2.1, HRES.out.2.2.2.1, HRES.out.2.2.2.2, HB9.out⟩
            · rw [if_pos (by rfl)]
              refine wp_slice_eqB 23 1 [(0, .tmp 63)] rfl [(0, .agg (dv d))] rfl _ _ (sliceDg _ d HD32.out) ?_
              have HZ2 := Lib.hid (dv_rowC w1 d)
              have HZL2 := Lib.hid (show w1.heap.size < (w1.alloc (.cells (dv d) 32)).heap.size by simp)
              have HAB := Lib.hid ((Below.refl w1.heap.size w1).alloc (Nat.le_refl _) (.cells (dv d) 32))
              have HB2 := Lib.hid (HB1.out.alloc HB1.out.size (.cells (dv d) 32))
              have HOE2 := Lib.hid (HOE.out.below HAB.out)
              have HNE := Lib.hid (show w1.heap.size ≠ ge by have := (HOE.out.1.lt ge rfl).2; omega)
              clear HOE
              clear HAB
              obtain ⟨gz, hgz⟩ : ∃ gz, gz = w1.heap.size := ⟨_, rfl⟩
              rw [← hgz] at HZ2 HZL2
              rw [← hgz] at HNE
              generalize World.alloc w1 _ = w2 at *
              rw [← hgz]
              clear hgz
              refine hK.out _ _ HB2.out (fun hHeld => ?_)
              clear hK K
              try simp only [Act.put, List.getElem_toArray, List.getElem_cons_succ, List.getElem_cons_zero, List.setIfInBounds_toArray, List.set_cons_zero, List.set_cons_succ]
              refine wpAnyH_ready (rs := [3]) (by kernel_rfl) (by simp) (AllReadyH.cons (o := _) rfl (fun K hK => ?_) AllReadyH.nil)
              rw [if_pos (by rfl)]
              refine wp_append_dgs (.tmp 57) (.tmp 58) rfl wr.heap.size _ [] 0 rfl rfl HOE2.out rp rn rc _ R rfl (HRr.out.upD HB2.out HB2.out.size) HRN.out (by omega) HB2.out.size ?_
              intro sp3 c3 w3 HO3 HBx HG3
              have HB3 := Lib.hid (HB2.out.trans HBx.out)
              simp only [Nat.zero_add, List.nil_append] at HO3 ⊢
              have HZ3 := Lib.hid (show w3.rangeAt gz 0 (d.map (Value.int .u8)) from fun j v hv => (World.cell?_of_block (a := ⟨gz, 0 + j, none⟩) (HG3.out.block gz HZL2.out (fun e => by injection e with e; exact HNE.out e))).trans (HZ2.out j v hv))
              have HZL3 := Lib.hid (Nat.lt_of_lt_of_le HZL2.out HG3.out.size)
              clear HBx HG3
              refine hK.out _ _ HB3.out (fun hHeld => ?_)
              clear hK K
              try simp only [Act.put, List.getElem_toArray, List.getElem_cons_succ, List.getElem_cons_zero, List.setIfInBounds_toArray, List.set_cons_zero, List.set_cons_succ]
              refine wpAnyH_ready (rs := [9]) (by kernel_rfl) (by simp) (AllReadyH.cons (o := _) rfl (fun K hK => ?_) AllReadyH.nil)
              rw [if_pos (by rfl)]
              refine wp_append_dgs (.tmp 59) (.tmp 64) rfl wr.heap.size _ R rn HRL.out rfl HO3.out (some ⟨gz, 0, none⟩) 1 1 _ [d] rfl (DigsIn.one HZ3.out HZL3.out HD32.out) (fun h => (by cases h)) (by omega) HB3.out.size ?_
              intro sp4 c4 w4 HO4 HBx HG4
              have HB4 := Lib.hid (HB3.out.trans HBx.out)
              clear HBx HG4
              refine hK.out _ _ HB4.out (fun hHeld => ?_)
              clear hK K
              try simp only [Act.put, List.getElem_toArray, List.getElem_cons_succ, List.getElem_cons_zero, List.setIfInBounds_toArray, List.set_cons_zero, List.set_cons_succ]
              refine wpAnyH_ready (rs := [10]) (by kernel_rfl) (by simp) (AllReadyH.cons (o := _) rfl (fun K hK => ?_) AllReadyH.nil)
              go_simp
              with_reducible refine (clo_any gs ns cs lx sp4 (rn + 1) c4 (R ++ [d]) w4 (HLX.out.up HB4.out (Nat.le_refl _)) (HO4.out.digs HRL1.out) HO4.out.nilcap (by omega) HPT.out).mono ?_
              rintro e w9 ⟨⟨gq, nq1, cq, gn, nn, cn, P2, M2, rfl, hcd, hdp, hdm, _, _, hb1, hb2⟩, b9⟩

              have HB9 := Lib.hid (HB4.out.trans (b9.mono HB4.out.size))
              have HRES := Lib.hid (And.intro hcd (And.intro hdp (And.intro hdm (And.intro hb1 hb2))))
              clear hcd hdp hdm b9 hb1 hb2
              go_wp2_with fail
              refine hK.out _ _ HB9.out (fun hHeld => ?_)
              clear hK K
              try simp only [Act.put, List.getElem_toArray, List.getElem_cons_succ, List.getElem_cons_zero, List.setIfInBounds_toArray, List.set_cons_zero, List.set_cons_succ]
              refine wpAnyH_take (i := 11) (oi := _) (v := ?v11n33) rfl (by kernel_rfl) (by kernel_rfl) (by kernel_rfl) (fun _ _ _ h => h) (Or.inl ⟨by rfl, ?hy11n33⟩) (by assumption) ?rest11n33
              case hy11n33 =>
                intro w' hSw
                go_simp
                try with_reducible rfl
              try simp only [Act.put, List.getElem_toArray, List.getElem_cons_succ, List.getElem_cons_zero, List.setIfInBounds_toArray, List.set_cons_zero, List.set_cons_succ]
              refine wpAnyH_take (i := 12) (oi := _) (v := ?v12n34) rfl (by kernel_rfl) (by kernel_rfl) (by kernel_rfl) (fun _ _ _ h => h) (Or.inl ⟨by rfl, ?hy12n34⟩) (by assumption) ?rest12n34
              case hy12n34 =>
                intro w' hSw
                go_simp
                try with_reducible rfl
              try simp only [Act.put, List.getElem_toArray, List.getElem_cons_succ, List.getElem_cons_zero, List.setIfInBounds_toArray, List.set_cons_zero, List.set_cons_succ]
              refine wpAnyH_take (i := 13) (oi := _) (v := ?v13n35) rfl (by kernel_rfl) (by kernel_rfl) (by kernel_rfl) (fun _ _ _ h => h) (Or.inl ⟨by rfl, ?hy13n35⟩) (by assumption) ?rest13n35
              case hy13n35 =>
                intro w' hSw
                go_simp
                try with_reducible rfl
              try simp only [Act.put, List.getElem_toArray, List.getElem_cons_succ, List.getElem_cons_zero, List.setIfInBounds_toArray, List.set_cons_zero, List.set_cons_succ]
              refine wpAnyH_take (i := 14) (oi := _) (v := ?v14n36) rfl (by kernel_rfl) (by kernel_rfl) (by kernel_rfl) (fun _ _ _ h => h) (Or.inl ⟨by rfl, ?hy14n36⟩) (by assumption) ?rest14n36
              case hy14n36 =>
                intro w' hSw
                go_simp
                try with_reducible rfl
              try simp only [Act.put, List.getElem_toArray, List.getElem_cons_succ, List.getElem_cons_zero, List.setIfInBounds_toArray, List.set_cons_zero, List.set_cons_succ]
              refine wpAnyH_take (i := 15) (oi := _) (v := ?v15n37) rfl (by kernel_rfl) (by kernel_rfl) (by kernel_rfl) (fun _ _ _ h => h) (Or.inl ⟨by rfl, ?hy15n37⟩) (by assumption) ?rest15n37
              case hy15n37 =>
                intro w' hSw
                go_simp
                try with_reducible rfl
              try simp only [Act.put, List.getElem_toArray, List.getElem_cons_succ, List.getElem_cons_zero, List.setIfInBounds_toArray, List.set_cons_zero, List.set_cons_succ]
              refine wpAnyH_done (by kernel_rfl) ?_ _
              clear hHeld
              go_wp2_with fail
              go_meet
              exact ⟨gq, nq1, cq, gn, nn, cn, P2, M2, rfl, rfl, HRES.out.1, HRES.out.2.1, HRES.out.2.2.1, HRES.out.2.2.2.1, HRES.out.2.2.2.2, HB9.out⟩
          · rw [if_pos (by rfl)]
            refine wp_slice_eqB 23 1 [(0, .tmp 63)] rfl [(0, .agg (dv d))] rfl _ _ (sliceDg _ d HD32.out) ?_
            have HZ1 := Lib.hid (dv_rowC w0 d)
            have HZL1 := Lib.hid (show w0.heap.size < (w0.alloc (.cells (dv d) 32)).heap.size by simp)
            have HAB := Lib.hid ((Below.refl w0.heap.size w0).alloc (Nat.le_refl _) (.cells (dv d) 32))
            have HB1 := Lib.hid (HB0.out.alloc HB0.out.size (.cells (dv d) 32))
            clear HAB
            obtain ⟨gz, hgz⟩ : ∃ gz, gz = w0.heap.size := ⟨_, rfl⟩
            rw [← hgz] at HZ1 HZL1
            generalize World.alloc w0 _ = w1 at *
            rw [← hgz]
            clear hgz
            refine hK.out _ _ HB1.out (fun hHeld => ?_)
            clear hK K
            try simp only [Act.put, List.getElem_toArray, List.getElem_cons_succ, List.getElem_cons_zero, List.setIfInBounds_toArray, List.set_cons_zero, List.set_cons_succ]
            refine wpAnyH_ready (rs := [1]) (by kernel_rfl) (by simp) (AllReadyH.cons (o := _) rfl (fun K hK => ?_) AllReadyH.nil)
            rw [if_pos (by rfl)]
            refine wp_slice_eqB 23 0 [] rfl [] rfl _ _ (build0D _) ?_
            have HGE := Lib.hid (show wr.heap.size ≤ w1.heap.size from HB1.out.size)
            have HOE := Lib.hid ((own0D w1).base HGE.out)
            have HAB := Lib.hid ((Below.refl w1.heap.size w1).alloc (Nat.le_refl _) (.cells #[] 32))
            have HB2 := Lib.hid (HB1.out.alloc HB1.out.size (.cells #[] 32))
            have HZ2 := Lib.hid (range_belowG HZ1.out HAB.out HZL1.out)
            have HZL2 := Lib.hid (Nat.lt_of_lt_of_le HZL1.out HAB.out.size)
            clear HAB
            obtain ⟨ge, hge⟩ : ∃ ge, ge = w1.heap.size := ⟨_, rfl⟩
            rw [← hge] at HGE HOE
            have HNE := Lib.hid (show gz ≠ ge by have := HZL1.out; omega)
            generalize World.alloc w1 _ = w2 at *
            rw [← hge]
            clear hge
            refine hK.out _ _ HB2.out (fun hHeld => ?_)
            clear hK K
            try simp only [Act.put, List.getElem_toArray, List.getElem_cons_succ, List.getElem_cons_zero, List.setIfInBounds_toArray, List.set_cons_zero, List.set_cons_succ]
            refine wpAnyH_ready (rs := [3]) (by kernel_rfl) (by simp) (AllReadyH.cons (o := _) rfl (fun K hK => ?_) AllReadyH.nil)
            rw [if_pos (by rfl)]
            refine wp_append_dgs (.tmp 57) (.tmp 58) rfl wr.heap.size _ [] 0 rfl rfl HOE.out rp rn rc _ R rfl (HRr.out.upD HB2.out HB2.out.size) HRN.out (by omega) HB2.out.size ?_
            intro sp3 c3 w3 HO3 HBx HG3
            have HB3 := Lib.hid (HB2.out.trans HBx.out)
            simp only [Nat.zero_add, List.nil_append] at HO3 ⊢
            have HZ3 := Lib.hid (show w3.rangeAt gz 0 (d.map (Value.int .u8)) from fun j v hv => (World.cell?_of_block (a := ⟨gz, 0 + j, none⟩) (HG3.out.block gz HZL2.out (fun e => by injection e with e; exact HNE.out e))).trans (HZ2.out j v hv))
            have HZL3 := Lib.hid (Nat.lt_of_lt_of_le HZL2.out HG3.out.size)
            clear HBx HG3
            refine hK.out _ _ HB3.out (fun hHeld => ?_)
            clear hK K
            try simp only [Act.put, List.getElem_toArray, List.getElem_cons_succ, List.getElem_cons_zero, List.setIfInBounds_toArray, List.set_cons_zero, List.set_cons_succ]
            refine wpAnyH_ready (rs := [9]) (by kernel_rfl) (by simp) (AllReadyH.cons (o := _) rfl (fun K hK => ?_) AllReadyH.nil)
            rw [if_pos (by rfl)]
            refine wp_append_dgs (.tmp 59) (.tmp 64) rfl wr.heap.size _ R rn HRL.out rfl HO3.out (some ⟨gz, 0, none⟩) 1 1 _ [d] rfl (DigsIn.one HZ3.out HZL3.out HD32.out) (fun h => (by cases h)) (by omega) HB3.out.size ?_
            intro sp4 c4 w4 HO4 HBx HG4
            have HB4 := Lib.hid (HB3.out.trans HBx.out)
            clear HBx HG4
            refine hK.out _ _ HB4.out (fun hHeld => ?_)
            clear hK K
            try simp only [Act.put, List.getElem_toArray, List.getElem_cons_succ, List.getElem_cons_zero, List.setIfInBounds_toArray, List.set_cons_zero, List.set_cons_succ]
            refine wpAnyH_ready (rs := [10]) (by kernel_rfl) (by simp) (AllReadyH.cons (o := _) rfl (fun K hK => ?_) AllReadyH.nil)
            go_simp
            with_reducible refine (clo_any gs ns cs lx sp4 (rn + 1) c4 (R ++ [d]) w4 (HLX.out.up HB4.out (Nat.le_refl _)) (HO4.out.digs HRL1.out) HO4.out.nilcap (by omega) HPT.out).mono ?_
            rintro e w9 ⟨⟨gq, nq1, cq, gn, nn, cn, P2, M2, rfl, hcd, hdp, hdm, _, _, hb1, hb2⟩, b9⟩

            have HB9 := Lib.hid (HB4.out.trans (b9.mono HB4.out.size))
            have HRES := Lib.hid (And.intro hcd (And.intro hdp (And.intro hdm (And.intro hb1 hb2))))
            clear hcd hdp hdm b9 hb1 hb2
            go_wp2_with fail
            refine hK.out _ _ HB9.out (fun hHeld => ?_)
            clear hK K
            try simp only [Act.put, List.getElem_toArray, List.getElem_cons_succ, List.getElem_cons_zero, List.setIfInBounds_toArray, List.set_cons_zero, List.set_cons_succ]
            refine wpAnyH_take (i := 11) (oi := _) (v := ?v11n38) rfl (by kernel_rfl) (by kernel_rfl) (by kernel_rfl) (fun _ _ _ h => h) (Or.inl ⟨by rfl, ?hy11n38⟩) (by assumption) ?rest11n38
            case hy11n38 =>
              intro w' hSw
              go_simp
              try with_reducible rfl
            try simp only [Act.put, List.getElem_toArray, List.getElem_cons_succ, List.getElem_cons_zero, List.setIfInBounds_toArray, List.set_cons_zero, List.set_cons_succ]
            refine wpAnyH_take (i := 12) (oi := _) (v := ?v12n39) rfl (by kernel_rfl) (by kernel_rfl) (by kernel_rfl) (fun _ _ _ h => h) (Or.inl ⟨by rfl, ?hy12n39⟩) (by assumption) ?rest12n39
            case hy12n39 =>
              intro w' hSw
              go_simp
              try with_reducible rfl
            try simp only [Act.put, List.getElem_toArray, List.getElem_cons_succ, List.getElem_cons_zero, List.setIfInBounds_toArray, List.set_cons_zero, List.set_cons_succ]
            refine wpAnyH_take (i := 13) (oi := _) (v := ?v13n40) rfl (by kernel_rfl) (by kernel_rfl) (by kernel_rfl) (fun _ _ _ h => h) (Or.inl ⟨by rfl, ?hy13n40⟩) (by assumption) ?rest13n40
            case hy13n40 =>
              intro w' hSw
              go_simp
              try with_reducible rfl
            try simp only [Act.put, List.getElem_toArray, List.getElem_cons_succ, List.getElem_cons_zero, List.setIfInBounds_toArray, List.set_cons_zero, List.set_cons_succ]
            refine wpAnyH_take (i := 14) (oi := _) (v := ?v14n41) rfl (by kernel_rfl) (by kernel_rfl) (by kernel_rfl) (fun _ _ _ h => h) (Or.inl ⟨by rfl, ?hy14n41⟩) (by assumption) ?rest14n41
            case hy14n41 =>
              intro w' hSw
              go_simp
              try with_reducible rfl
            try simp only [Act.put, List.getElem_toArray, List.getElem_cons_succ, List.getElem_cons_zero, List.setIfInBounds_toArray, List.set_cons_zero, List.set_cons_succ]
            refine wpAnyH_take (i := 15) (oi := _) (v := ?v15n42) rfl (by kernel_rfl) (by kernel_rfl) (by kernel_rfl) (fun _ _ _ h => h) (Or.inl ⟨by rfl, ?hy15n42⟩) (by assumption) ?rest15n42
            case hy15n42 =>
              intro w' hSw
              go_simp
              try with_reducible rfl
            try simp only [Act.put, List.getElem_toArray, List.getElem_cons_succ, List.getElem_cons_zero, List.setIfInBounds_toArray, List.set_cons_zero, List.set_cons_succ]
            refine wpAnyH_done (by kernel_rfl) ?_ _
            clear hHeld
            go_wp2_with fail
            go_meet
            exact ⟨gq, nq1, cq, gn, nn, cn, P2, M2, rfl, rfl, HRES.out.1, HRES.out.2.1, HRES.out.2.2.1, HRES.out.2.2.2.1, HRES.out.2.2.2.2, HB9.out⟩
      case rest =>
      obtain ⟨gp, np1, cp, gm, nm, cm, P, M, rfl, rfl, HC⟩ := hcut
      have HCB := Lib.hid HC.out.2.2.2.2.2
      have HBW2 := Lib.hid (HBW.out.trans (HCB.out.mono HBW.out.size))
      have HLX2 := Lib.hid (HLX.out.up HCB.out (Nat.le_refl _)); have HDS2 := Lib.hid (HDS.out.upD HCB.out HCB.out.size)
      have HDR2 := Lib.hid (range_belowG HDR.out HCB.out HDB.out); have HDB2 := Lib.hid (Nat.lt_of_lt_of_le HDB.out HCB.out.size)
      have HRr2 := Lib.hid (HRr.out.upD HCB.out HCB.out.size)
      have HCD1 := Lib.hid HC.out.1
      clear HBW HLX HDS HDR HDB HRr HCB
      go_upto_region 12 with fail
      go_cut [11, 12] (fun s11 s12 wy => ∃ (gp2 : Option Addr) (np2 cp2 : Nat) (gm2 : Option Addr) (nm2 cm2 : Nat), s11 = .slice gp2 np2 cp2 ∧ s12 = .slice gm2 nm2 cm2 ∧ Hid (DigsIn wy wy.heap.size gp2 np2 cp2 P ∧ DigsIn wy wy.heap.size gm2 nm2 cm2 M ∧ Below wc.heap.size wc wy))
      case first =>
        as_aux_lemma =>
          refine wp_region_held_drew (S := fun w' => Below wc.heap.size wc w') (by kernel_rfl) (Below.refl wc.heap.size wc).drew (fun hHeld => ?_)
          have HB0 := Lib.hid ((Below.refl wc.heap.size wc).drew)
          generalize World.drew wc = w0 at *
          refine wpAnyH_take (i := 0) (oi := _) (v := ?v0n1) rfl (by kernel_rfl) (by kernel_rfl) (by kernel_rfl) (fun _ _ _ h => h) (Or.inl ⟨by rfl, ?hy0n1⟩) (by assumption) ?rest0n1
          case hy0n1 =>
            intro w' hSw
            go_simp
            try with_reducible rfl
          try simp only [Act.put, List.getElem_toArray, List.getElem_cons_succ, List.getElem_cons_zero, List.setIfInBounds_toArray, List.set_cons_zero, List.set_cons_succ]
          refine wpAnyH_take (i := 2) (oi := _) (v := ?v2n2) rfl (by kernel_rfl) (by kernel_rfl) (by kernel_rfl) (fun _ _ _ h => h) (Or.inl ⟨by rfl, ?hy2n2⟩) (by assumption) ?rest2n2
          case hy2n2 =>
            intro w' hSw
            go_simp
            try with_reducible rfl
          try simp only [Act.put, List.getElem_toArray, List.getElem_cons_succ, List.getElem_cons_zero, List.setIfInBounds_toArray, List.set_cons_zero, List.set_cons_succ]
          refine wpAnyH_take (i := 4) (oi := _) (v := ?v4n3) rfl (by kernel_rfl) (by kernel_rfl) (by kernel_rfl) (fun _ _ _ h => h) (Or.inl ⟨by rfl, ?hy4n3⟩) (by assumption) ?rest4n3
          case hy4n3 =>
            intro w' hSw
            go_simp
            try with_reducible rfl
          try simp only [Act.put, List.getElem_toArray, List.getElem_cons_succ, List.getElem_cons_zero, List.setIfInBounds_toArray, List.set_cons_zero, List.set_cons_succ]
          refine wpAnyH_take (i := 5) (oi := _) (v := ?v5n4) rfl (by kernel_rfl) (by kernel_rfl) (by kernel_rfl) (fun _ _ _ h => h) (Or.inl ⟨by rfl, ?hy5n4⟩) (by assumption) ?rest5n4
          case hy5n4 =>
            intro w' hSw
            go_simp
            try with_reducible rfl
          try simp only [Act.put, List.getElem_toArray, List.getElem_cons_succ, List.getElem_cons_zero, List.setIfInBounds_toArray, List.set_cons_zero, List.set_cons_succ]
          refine wpAnyH_take (i := 6) (oi := _) (v := ?v6n5) rfl (by kernel_rfl) (by kernel_rfl) (by kernel_rfl) (fun _ _ _ h => h) (Or.inl ⟨by rfl, ?hy6n5⟩) (by assumption) ?rest6n5
          case hy6n5 =>
            intro w' hSw
            go_simp
            try with_reducible rfl
          try simp only [Act.put, List.getElem_toArray, List.getElem_cons_succ, List.getElem_cons_zero, List.setIfInBounds_toArray, List.set_cons_zero, List.set_cons_succ]
          refine' wpAnyH_take (i := 7) (oi := _) (v := _) rfl (by kernel_rfl) (by kernel_rfl) (by kernel_rfl) (fun _ _ _ h => h) (yieldsIf_load_mid (by rfl) _ _ rfl _ _ rfl _ _ ?hS7n6 Tryz.underlying32 rfl HID.out) (by assumption) ?rest7n6
          case hS7n6 =>
            intro w' hSw
            exact (range_belowG HDR2.out hSw HDB2.out)
          try simp only [Act.put, List.getElem_toArray, List.getElem_cons_succ, List.getElem_cons_zero, List.setIfInBounds_toArray, List.set_cons_zero, List.set_cons_succ]
          refine wpAnyH_ready (rs := [1, 8]) (by kernel_rfl) (by simp) (AllReadyH.cons (o := _) rfl (fun K hK => ?_) (AllReadyH.cons (o := _) rfl (fun K hK => ?_) AllReadyH.nil))
          · rw [if_pos (by rfl)]
            refine wp_slice_eqB 23 0 [] rfl [] rfl _ _ (build0D _) ?_
            have HGE := Lib.hid (show wc.heap.size ≤ w0.heap.size from HB0.out.size)
            have HOE := Lib.hid ((own0D w0).base HGE.out)
            have HAB := Lib.hid ((Below.refl w0.heap.size w0).alloc (Nat.le_refl _) (.cells #[] 32))
            have HB1 := Lib.hid (HB0.out.alloc HB0.out.size (.cells #[] 32))
            clear HAB
            obtain ⟨ge, hge⟩ : ∃ ge, ge = w0.heap.size := ⟨_, rfl⟩
            rw [← hge] at HGE HOE
            generalize World.alloc w0 _ = w1 at *
            rw [← hge]
            clear hge
            refine hK.out _ _ HB1.out (fun hHeld => ?_)
            clear hK K
            try simp only [Act.put, List.getElem_toArray, List.getElem_cons_succ, List.getElem_cons_zero, List.setIfInBounds_toArray, List.set_cons_zero, List.set_cons_succ]
            refine wpAnyH_ready (rs := [3, 8]) (by kernel_rfl) (by simp) (AllReadyH.cons (o := _) rfl (fun K hK => ?_) (AllReadyH.cons (o := _) rfl (fun K hK => ?_) AllReadyH.nil))
            · rw [if_pos (by rfl)]
              refine wp_append_dgs (.tmp 71) (.tmp 72) rfl wc.heap.size _ [] 0 rfl rfl HOE.out rp rn rc _ R rfl (HRr2.out.upD HB1.out HB1.out.size) HRN.out (by omega) HB1.out.size ?_
              intro sp3 c3 w2 HO3 HBx HG3
              have HB2 := Lib.hid (HB1.out.trans HBx.out)
              simp only [Nat.zero_add, List.nil_append] at HO3 ⊢
              clear HBx HG3
              refine hK.out _ _ HB2.out (fun hHeld => ?_)
              clear hK K
              try simp only [Act.put, List.getElem_toArray, List.getElem_cons_succ, List.getElem_cons_zero, List.setIfInBounds_toArray, List.set_cons_zero, List.set_cons_succ]
              refine wpAnyH_ready (rs := [8]) (by kernel_rfl) (by simp) (AllReadyH.cons (o := _) rfl (fun K hK => ?_) AllReadyH.nil)
              rw [if_pos (by rfl)]
              refine wp_slice_eqB 23 1 [(0, .tmp 77)] rfl [(0, .agg (dv d))] rfl _ _ (sliceDg _ d HD32.out) ?_
              have HZ3 := Lib.hid (dv_rowC w2 d)
              have HZL3 := Lib.hid (show w2.heap.size < (w2.alloc (.cells (dv d) 32)).heap.size by simp)
              have HAB := Lib.hid ((Below.refl w2.heap.size w2).alloc (Nat.le_refl _) (.cells (dv d) 32))
              have HB3 := Lib.hid (HB2.out.alloc HB2.out.size (.cells (dv d) 32))
              have HO3b := Lib.hid (HO3.out.below HAB.out)
              clear HO3
              clear HAB
              obtain ⟨gz, hgz⟩ : ∃ gz, gz = w2.heap.size := ⟨_, rfl⟩
              rw [← hgz] at HZ3 HZL3
              generalize World.alloc w2 _ = w3 at *
              rw [← hgz]
              clear hgz
              refine hK.out _ _ HB3.out (fun hHeld => ?_)
              clear hK K
              try simp only [Act.put, List.getElem_toArray, List.getElem_cons_succ, List.getElem_cons_zero, List.setIfInBounds_toArray, List.set_cons_zero, List.set_cons_succ]
              refine wpAnyH_ready (rs := [9]) (by kernel_rfl) (by simp) (AllReadyH.cons (o := _) rfl (fun K hK => ?_) AllReadyH.nil)
              rw [if_pos (by rfl)]
              refine wp_append_dgs (.tmp 73) (.tmp 78) rfl wc.heap.size _ R rn HRL.out rfl HO3b.out (some ⟨gz, 0, none⟩) 1 1 _ [d] rfl (DigsIn.one HZ3.out HZL3.out HD32.out) (fun h => (by cases h)) (by omega) HB3.out.size ?_
              intro sp4 c4 w4 HO4 HBx HG4
              have HB4 := Lib.hid (HB3.out.trans HBx.out)
              clear HBx HG4
              refine hK.out _ _ HB4.out (fun hHeld => ?_)
              clear hK K
              try simp only [Act.put, List.getElem_toArray, List.getElem_cons_succ, List.getElem_cons_zero, List.setIfInBounds_toArray, List.set_cons_zero, List.set_cons_succ]
              refine wpAnyH_ready (rs := [10]) (by kernel_rfl) (by simp) (AllReadyH.cons (o := _) rfl (fun K hK => ?_) AllReadyH.nil)
              go_simp
              with_reducible refine (rclo_any gs ns cs lx sp4 (rn + 1) c4 (R ++ [d]) w4 (HLX2.out.up HB4.out (Nat.le_refl _)) (HO4.out.digs HRL1.out) (by omega) HPT.out).mono ?_
              rintro e w9 ⟨⟨gq, nq1, cq, gn, nn, cn, P2, M2, rfl, hcd, hdp, hdm, _, _⟩, b9⟩
              obtain ⟨rfl, rfl⟩ := HCD1.out.det hcd
              have HB9 := Lib.hid (HB4.out.trans (b9.mono HB4.out.size))
              have HRES := Lib.hid (And.intro hcd (And.intro hdp (And.intro hdm True.intro)))
              clear hcd hdp hdm b9
              go_wp2_with fail
              refine hK.out _ _ HB9.out (fun hHeld => ?_)
              clear hK K
              try simp only [Act.put, List.getElem_toArray, List.getElem_cons_succ, List.getElem_cons_zero, List.setIfInBounds_toArray, List.set_cons_zero, List.set_cons_succ]
              refine wpAnyH_take (i := 11) (oi := _) (v := ?v11n7) rfl (by kernel_rfl) (by kernel_rfl) (by kernel_rfl) (fun _ _ _ h => h) (Or.inl ⟨by rfl, ?hy11n7⟩) (by assumption) ?rest11n7
              case hy11n7 =>
                intro w' hSw
                go_simp
                try with_reducible rfl
              try simp only [Act.put, List.getElem_toArray, List.getElem_cons_succ, List.getElem_cons_zero, List.setIfInBounds_toArray, List.set_cons_zero, List.set_cons_succ]
              refine wpAnyH_take (i := 12) (oi := _) (v := ?v12n8) rfl (by kernel_rfl) (by kernel_rfl) (by kernel_rfl) (fun _ _ _ h => h) (Or.inl ⟨by rfl, ?hy12n8⟩) (by assumption) ?rest12n8
              case hy12n8 =>
                intro w' hSw
                go_simp
                try with_reducible rfl
              try simp only [Act.put, List.getElem_toArray, List.getElem_cons_succ, List.getElem_cons_zero, List.setIfInBounds_toArray, List.set_cons_zero, List.set_cons_succ]
              refine wpAnyH_take (i := 13) (oi := _) (v := ?v13n9) rfl (by kernel_rfl) (by kernel_rfl) (by kernel_rfl) (fun _ _ _ h => h) (Or.inl ⟨by rfl, ?hy13n9⟩) (by assumption) ?rest13n9
              case hy13n9 =>
                intro w' hSw
                go_simp
                try with_reducible rfl
              try simp only [Act.put, List.getElem_toArray, List.getElem_cons_succ, List.getElem_cons_zero, List.setIfInBounds_toArray, List.set_cons_zero, List.set_cons_succ]
              refine wpAnyH_take (i := 14) (oi := _) (v := ?v14n10) rfl (by kernel_rfl) (by kernel_rfl) (by kernel_rfl) (fun _ _ _ h => h) (Or.inl ⟨by rfl, ?hy14n10⟩) (by assumption) ?rest14n10
              case hy14n10 =>
                intro w' hSw
                go_simp
                try with_reducible rfl
              try simp only [Act.put, List.getElem_toArray, List.getElem_cons_succ, List.getElem_cons_zero, List.setIfInBounds_toArray, List.set_cons_zero, List.set_cons_succ]
              refine wpAnyH_take (i := 15) (oi := _) (v := ?v15n11) rfl (by kernel_rfl) (by kernel_rfl) (by kernel_rfl) (fun _ _ _ h => h) (Or.inl ⟨by rfl, ?hy15n11⟩) (by assumption) ?rest15n11
              case hy15n11 =>
                intro w' hSw
                go_simp
                try with_reducible rfl
              try simp only [Act.put, List.getElem_toArray, List.getElem_cons_succ, List.getElem_cons_zero, List.setIfInBounds_toArray, List.set_cons_zero, List.set_cons_succ]
              refine wpAnyH_done (by kernel_rfl) ?_ _
              clear hHeld
              go_wp2_with fail
              go_meet
              exact ⟨gq, nq1, cq, gn, nn, cn, rfl, rfl, HRES.out.2.1, HRES.out.2.2.1, HB9.out⟩
            · rw [if_pos (by rfl)]
              refine wp_slice_eqB 23 1 [(0, .tmp 77)] rfl [(0, .agg (dv d))] rfl _ _ (sliceDg _ d HD32.out) ?_
              have HZ2 := Lib.hid (dv_rowC w1 d)
              have HZL2 := Lib.hid (show w1.heap.size < (w1.alloc (.cells (dv d) 32)).heap.size by simp)
              have HAB := Lib.hid ((Below.refl w1.heap.size w1).alloc (Nat.le_refl _) (.cells (dv d) 32))
              have HB2 := Lib.hid (HB1.out.alloc HB1.out.size (.cells (dv d) 32))
              have HOE2 := Lib.hid (HOE.out.below HAB.out)
              have HNE := Lib.hid (show w1.heap.size ≠ ge by have := (HOE.out.1.lt ge rfl).2; omega)
              clear HOE
              clear HAB
              obtain ⟨gz, hgz⟩ : ∃ gz, gz = w1.heap.size := ⟨_, rfl⟩
              rw [← hgz] at HZ2 HZL2
              rw [← hgz] at HNE
              generalize World.alloc w1 _ = w2 at *
              rw [← hgz]
              clear hgz
              refine hK.out _ _ HB2.out (fun hHeld => ?_)
              clear hK K
              try simp only [Act.put, List.getElem_toArray, List.getElem_cons_succ, List.getElem_cons_zero, List.setIfInBounds_toArray, List.set_cons_zero, List.set_cons_succ]
              refine wpAnyH_ready (rs := [3]) (by kernel_rfl) (by simp) (AllReadyH.cons (o := _) rfl (fun K hK => ?_) AllReadyH.nil)
              rw [if_pos (by rfl)]
              refine wp_append_dgs (.tmp 71) (.tmp 72) rfl wc.heap.size _ [] 0 rfl rfl HOE2.out rp rn rc _ R rfl (HRr2.out.upD HB2.out HB2.out.size) HRN.out (by omega) HB2.out.size ?_
              intro sp3 c3 w3 HO3 HBx HG3
              have HB3 := Lib.hid (HB2.out.trans HBx.out)
              simp only [Nat.zero_add, List.nil_append] at HO3 ⊢
              have HZ3 := Lib.hid (show w3.rangeAt gz 0 (d.map (Value.int .u8)) from fun j v hv => (World.cell?_of_block (a := ⟨gz, 0 + j, none⟩) (HG3.out.block gz HZL2.out (fun e => by injection e with e; exact HNE.out e))).trans (HZ2.out j v hv))
              have HZL3 := Lib.hid (Nat.lt_of_lt_of_le HZL2.out HG3.out.size)
              clear HBx HG3
              refine hK.out _ _ HB3.out (fun hHeld => ?_)
              clear hK K
              try simp only [Act.put, List.getElem_toArray, List.getElem_cons_succ, List.getElem_cons_zero, List.setIfInBounds_toArray, List.set_cons_zero, List.set_cons_succ]
              refine wpAnyH_ready (rs := [9]) (by kernel_rfl) (by simp) (AllReadyH.cons (o := _) rfl (fun K hK => ?_) AllReadyH.nil)
              rw [if_pos (by rfl)]
              refine wp_append_dgs (.tmp 73) (.tmp 78) rfl wc.heap.size _ R rn HRL.out rfl HO3.out (some ⟨gz, 0, none⟩) 1 1 _ [d] rfl (DigsIn.one HZ3.out HZL3.out HD32.out) (fun h => (by cases h)) (by omega) HB3.out.size ?_
              intro sp4 c4 w4 HO4 HBx HG4
              have HB4 := Lib.hid (HB3.out.trans HBx.out)
              clear HBx HG4
              refine hK.out _ _ HB4.out (fun hHeld => ?_)
              clear hK K
              try simp only [Act.put, List.getElem_toArray, List.getElem_cons_succ, List.getElem_cons_zero, List.setIfInBounds_toArray, List.set_cons_zero, List.set_cons_succ]
              refine wpAnyH_ready (rs := [10]) (by kernel_rfl) (by simp) (AllReadyH.cons (o := _) rfl (fun K hK => ?_) AllReadyH.nil)
              go_simp
              with_reducible refine (rclo_any gs ns cs lx sp4 (rn + 1) c4 (R ++ [d]) w4 (HLX2.out.up HB4.out (Nat.le_refl _)) (HO4.out.digs HRL1.out) (by omega) HPT.out).mono ?_
              rintro e w9 ⟨⟨gq, nq1, cq, gn, nn, cn, P2, M2, rfl, hcd, hdp, hdm, _, _⟩, b9⟩
              obtain ⟨rfl, rfl⟩ := HCD1.out.det hcd
              have HB9 := Lib.hid (HB4.out.trans (b9.mono HB4.out.size))
              have HRES := Lib.hid (And.intro hcd (And.intro hdp (And.intro hdm True.intro)))
              clear hcd hdp hdm b9
              go_wp2_with fail
              refine hK.out _ _ HB9.out (fun hHeld => ?_)
              clear hK K
              try simp only [Act.put, List.getElem_toArray, List.getElem_cons_succ, List.getElem_cons_zero, List.setIfInBounds_toArray, List.set_cons_zero, List.set_cons_succ]
              refine wpAnyH_take (i := 11) (oi := _) (v := ?v11n12) rfl (by kernel_rfl) (by kernel_rfl) (by kernel_rfl) (fun _ _ _ h => h) (Or.inl ⟨by rfl, ?hy11n12⟩) (by assumption) ?rest11n12
              case hy11n12 =>
                intro w' hSw
                go_simp
                try with_reducible rfl
              try simp only [Act.put, List.getElem_toArray, List.getElem_cons_succ, List.getElem_cons_zero, List.setIfInBounds_toArray, List.set_cons_zero, List.set_cons_succ]
              refine wpAnyH_take (i := 12) (oi := _) (v := ?v12n13) rfl (by kernel_rfl) (by kernel_rfl) (by kernel_rfl) (fun _ _ _ h => h) (Or.inl ⟨by rfl, ?hy12n13⟩) (by assumption) ?rest12n13
              case hy12n13 =>
                intro w' hSw
                go_simp
                try with_reducible rfl
              try simp only [Act.put, List.getElem_toArray, List.getElem_cons_succ, List.getElem_cons_zero, List.setIfInBounds_toArray, List.set_cons_zero, List.set_cons_succ]
              refine wpAnyH_take (i := 13) (oi := _) (v := ?v13n14) rfl (by kernel_rfl) (by kernel_rfl) (by kernel_rfl) (fun _ _ _ h => h) (Or.inl ⟨by rfl, ?hy13n14⟩) (by assumption) ?rest13n14
              case hy13n14 =>
                intro w' hSw
                go_simp
                try with_reducible rfl
              try simp only [Act.put, List.getElem_toArray, List.getElem_cons_succ, List.getElem_cons_zero, List.setIfInBounds_toArray, List.set_cons_zero, List.set_cons_succ]
              refine wpAnyH_take (i := 14) (oi := _) (v := ?v14n15) rfl (by kernel_rfl) (by kernel_rfl) (by kernel_rfl) (fun _ _ _ h => h) (Or.inl ⟨by rfl, ?hy14n15⟩) (by assumption) ?rest14n15
              case hy14n15 =>
                intro w' hSw
                go_simp
                try with_reducible rfl
              try simp only [Act.put, List.getElem_toArray, List.getElem_cons_succ, List.getElem_cons_zero, List.setIfInBounds_toArray, List.set_cons_zero, List.set_cons_succ]
              refine wpAnyH_take (i := 15) (oi := _) (v := ?v15n16) rfl (by kernel_rfl) (by kernel_rfl) (by kernel_rfl) (fun _ _ _ h => h) (Or.inl ⟨by rfl, ?hy15n16⟩) (by assumption) ?rest15n16
              case hy15n16 =>
                intro w' hSw
                go_simp
                try with_reducible rfl
              try simp only [Act.put, List.getElem_toArray, List.getElem_cons_succ, List.getElem_cons_zero, List.setIfInBounds_toArray, List.set_cons_zero, List.set_cons_succ]
              refine wpAnyH_done (by kernel_rfl) ?_ _
              clear hHeld
              go_wp2_with fail
              go_meet
              exact ⟨gq, nq1, cq, gn, nn, cn, rfl, rfl, HRES.out.2.1, HRES.out.2.2.1, HB9.out⟩
          · rw [if_pos (by rfl)]
            refine wp_slice_eqB 23 1 [(0, .tmp 77)] rfl [(0, .agg (dv d))] rfl _ _ (sliceDg _ d HD32.out) ?_
            have HZ1 := Lib.hid (dv_rowC w0 d)
            have HZL1 := Lib.hid (show w0.heap.size < (w0.alloc (.cells (dv d) 32)).heap.size by simp)
            have HAB := Lib.hid ((Below.refl w0.heap.size w0).alloc (Nat.le_refl _) (.cells (dv d) 32))
            have HB1 := Lib.hid (HB0.out.alloc HB0.out.size (.cells (dv d) 32))
            clear HAB
            obtain ⟨gz, hgz⟩ : ∃ gz, gz = w0.heap.size := ⟨_, rfl⟩
            rw [← hgz] at HZ1 HZL1
            generalize World.alloc w0 _ = w1 at *
            rw [← hgz]
            clear hgz
            refine hK.out _ _ HB1.out (fun hHeld => ?_)
            clear hK K
            try simp only [Act.put, List.getElem_toArray, List.getElem_cons_succ, List.getElem_cons_zero, List.setIfInBounds_toArray, List.set_cons_zero, List.set_cons_succ]
            refine wpAnyH_ready (rs := [1]) (by kernel_rfl) (by simp) (AllReadyH.cons (o := _) rfl (fun K hK => ?_) AllReadyH.nil)
            rw [if_pos (by rfl)]
            refine wp_slice_eqB 23 0 [] rfl [] rfl _ _ (build0D _) ?_
            have HGE := Lib.hid (show wc.heap.size ≤ w1.heap.size from HB1.out.size)
            have HOE := Lib.hid ((own0D w1).base HGE.out)
            have HAB := Lib.hid ((Below.refl w1.heap.size w1).alloc (Nat.le_refl _) (.cells #[] 32))
            have HB2 := Lib.hid (HB1.out.alloc HB1.out.size (.cells #[] 32))
            have HZ2 := Lib.hid (range_belowG HZ1.out HAB.out HZL1.out)
            have HZL2 := Lib.hid (Nat.lt_of_lt_of_le HZL1.out HAB.out.size)
            clear HAB
            obtain ⟨ge, hge⟩ : ∃ ge, ge = w1.heap.size := ⟨_, rfl⟩
            rw [← hge] at HGE HOE
            have HNE := Lib.hid (show gz ≠ ge by have := HZL1.out; omega)
            generalize World.alloc w1 _ = w2 at *
            rw [← hge]
            clear hge
            refine hK.out _ _ HB2.out (fun hHeld => ?_)
            clear hK K
            try simp only [Act.put, List.getElem_toArray, List.getElem_cons_succ, List.getElem_cons_zero, List.setIfInBounds_toArray, List.set_cons_zero, List.set_cons_succ]
            refine wpAnyH_ready (rs := [3]) (by kernel_rfl) (by simp) (AllReadyH.cons (o := _) rfl (fun K hK => ?_) AllReadyH.nil)
            rw [if_pos (by rfl)]
            refine wp_append_dgs (.tmp 71) (.tmp 72) rfl wc.heap.size _ [] 0 rfl rfl HOE.out rp rn rc _ R rfl (HRr2.out.upD HB2.out HB2.out.size) HRN.out (by omega) HB2.out.size ?_
            intro sp3 c3 w3 HO3 HBx HG3
            have HB3 := Lib.hid (HB2.out.trans HBx.out)
            simp only [Nat.zero_add, List.nil_append] at HO3 ⊢
            have HZ3 := Lib.hid (show w3.rangeAt gz 0 (d.map (Value.int .u8)) from fun j v hv => (World.cell?_of_block (a := ⟨gz, 0 + j, none⟩) (HG3.out.block gz HZL2.out (fun e => by injection e with e; exact HNE.out e))).trans (HZ2.out j v hv))
            have HZL3 := Lib.hid (Nat.lt_of_lt_of_le HZL2.out HG3.out.size)
            clear HBx HG3
            refine hK.out _ _ HB3.out (fun hHeld => ?_)
            clear hK K
            try simp only [Act.put, List.getElem_toArray, List.getElem_cons_succ, List.getElem_cons_zero, List.setIfInBounds_toArray, List.set_cons_zero, List.set_cons_succ]
            refine wpAnyH_ready (rs := [9]) (by kernel_rfl) (by simp) (AllReadyH.cons (o := _) rfl (fun K hK => ?_) AllReadyH.nil)
            rw [if_pos (by rfl)]
            refine wp_append_dgs (.tmp 73) (.tmp 78) rfl wc.heap.size _ R rn HRL.out rfl HO3.out (some ⟨gz, 0, none⟩) 1 1 _ [d] rfl (DigsIn.one HZ3.out HZL3.out HD32.out) (fun h => (by cases h)) (by omega) HB3.out.size ?_
            intro sp4 c4 w4 HO4 HBx HG4
            have HB4 := Lib.hid (HB3.out.trans HBx.out)
            clear HBx HG4
            refine hK.out _ _ HB4.out (fun hHeld => ?_)
            clear hK K
            try simp only [Act.put, List.getElem_toArray, List.getElem_cons_succ, List.getElem_cons_zero, List.setIfInBounds_toArray, List.set_cons_zero, List.set_cons_succ]
            refine wpAnyH_ready (rs := [10]) (by kernel_rfl) (by simp) (AllReadyH.cons (o := _) rfl (fun K hK => ?_) AllReadyH.nil)
            go_simp
            with_reducible refine (rclo_any gs ns cs lx sp4 (rn + 1) c4 (R ++ [d]) w4 (HLX2.out.up HB4.out (Nat.le_refl _)) (HO4.out.digs HRL1.out) (by omega) HPT.out).mono ?_
            rintro e w9 ⟨⟨gq, nq1, cq, gn, nn, cn, P2, M2, rfl, hcd, hdp, hdm, _, _⟩, b9⟩
            obtain ⟨rfl, rfl⟩ := HCD1.out.det hcd
            have HB9 := Lib.hid (HB4.out.trans (b9.mono HB4.out.size))
            have HRES := Lib.hid (And.intro hcd (And.intro hdp (And.intro hdm True.intro)))
            clear hcd hdp hdm b9
            go_wp2_with fail
            refine hK.out _ _ HB9.out (fun hHeld => ?_)
            clear hK K
            try simp only [Act.put, List.getElem_toArray, List.getElem_cons_succ, List.getElem_cons_zero, List.setIfInBounds_toArray, List.set_cons_zero, List.set_cons_succ]
            refine wpAnyH_take (i := 11) (oi := _) (v := ?v11n17) rfl (by kernel_rfl) (by kernel_rfl) (by kernel_rfl) (fun _ _ _ h => h) (Or.inl ⟨by rfl, ?hy11n17⟩) (by assumption) ?rest11n17
            case hy11n17 =>
              intro w' hSw
              go_simp
              try with_reducible rfl
            try simp only [Act.put, List.getElem_toArray, List.getElem_cons_succ, List.getElem_cons_zero, List.setIfInBounds_toArray, List.set_cons_zero, List.set_cons_succ]
            refine wpAnyH_take (i := 12) (oi := _) (v := ?v12n18) rfl (by kernel_rfl) (by kernel_rfl) (by kernel_rfl) (fun _ _ _ h => h) (Or.inl ⟨by rfl, ?hy12n18⟩) (by assumption) ?rest12n18
            case hy12n18 =>
              intro w' hSw
              go_simp
              try with_reducible rfl
            try simp only [Act.put, List.getElem_toArray, List.getElem_cons_succ, List.getElem_cons_zero, List.setIfInBounds_toArray, List.set_cons_zero, List.set_cons_succ]
            refine wpAnyH_take (i := 13) (oi := _) (v := ?v13n19) rfl (by kernel_rfl) (by kernel_rfl) (by kernel_rfl) (fun _ _ _ h => h) (Or.inl ⟨by rfl, ?hy13n19⟩) (by assumption) ?rest13n19
            case hy13n19 =>
              intro w' hSw
              go_simp
              try with_reducible rfl
            try simp only [Act.put, List.getElem_toArray, List.getElem_cons_succ, List.getElem_cons_zero, List.setIfInBounds_toArray, List.set_cons_zero, List.set_cons_succ]
            refine wpAnyH_take (i := 14) (oi := _) (v := ?v14n20) rfl (by kernel_rfl) (by kernel_rfl) (by kernel_rfl) (fun _ _ _ h => h) (Or.inl ⟨by rfl, ?hy14n20⟩) (by assumption) ?rest14n20
            case hy14n20 =>
              intro w' hSw
              go_simp
              try with_reducible rfl
            try simp only [Act.put, List.getElem_toArray, List.getElem_cons_succ, List.getElem_cons_zero, List.setIfInBounds_toArray, List.set_cons_zero, List.set_cons_succ]
            refine wpAnyH_take (i := 15) (oi := _) (v := ?v15n21) rfl (by kernel_rfl) (by kernel_rfl) (by kernel_rfl) (fun _ _ _ h => h) (Or.inl ⟨by rfl, ?hy15n21⟩) (by assumption) ?rest15n21
            case hy15n21 =>
              intro w' hSw
              go_simp
              try with_reducible rfl
            try simp only [Act.put, List.getElem_toArray, List.getElem_cons_succ, List.getElem_cons_zero, List.setIfInBounds_toArray, List.set_cons_zero, List.set_cons_succ]
            refine wpAnyH_done (by kernel_rfl) ?_ _
            clear hHeld
            go_wp2_with fail
            go_meet
            exact ⟨gq, nq1, cq, gn, nn, cn, rfl, rfl, HRES.out.2.1, HRES.out.2.2.1, HB9.out⟩
      case rest =>
      obtain ⟨gp2, np2, cp2, gm2, nm2, cm2, rfl, rfl, HC2⟩ := hcut
      have HB5 := Lib.hid (HBW2.out.trans (HC2.out.2.2.mono HBW2.out.size))
      have HLX5 := Lib.hid (HLX2.out.up HC2.out.2.2 (Nat.le_refl _)); have HDS5 := Lib.hid (HDS2.out.upD HC2.out.2.2 HC2.out.2.2.size)
      have HP5 := Lib.hid (HC.out.2.1.upD HC2.out.2.2 HC2.out.2.2.size); have HM5 := Lib.hid (HC.out.2.2.1.upD HC2.out.2.2 HC2.out.2.2.size)
      have hbp := HC.out.2.2.2.1; have hbm := HC.out.2.2.2.2.1
      have HP6 := Lib.hid HC2.out.1; have HM6 := Lib.hid HC2.out.2.1
      clear HC HC2 HLX2 HDS2 HDR2 HDB2 HRr2 HBW2 HCD1
      go_wp2_with fail
      refine (sameD_any gp np1 cp P gp2 np2 cp2 P _ HP5.out HP6.out (by omega) rfl).mono ?_
      rintro e w7 ⟨rfl, b7⟩
      have HB7 := Lib.hid (HB5.out.trans (b7.mono HB5.out.size))
      have HLX7 := Lib.hid (HLX5.out.up b7 (Nat.le_refl _)); have HDS7 := Lib.hid (HDS5.out.upD b7 b7.size)
      have HM7 := Lib.hid (HM5.out.upD b7 b7.size); have HM8 := Lib.hid (HM6.out.upD b7 b7.size)
      clear b7 HLX5 HDS5 HP5 HP6 HM5 HM6 HB5
      go_wp2_with fail
      refine (sameD_any gm nm cm M gm2 nm2 cm2 M w7 HM7.out HM8.out (by omega) rfl).mono ?_
      rintro e w8 ⟨rfl, b8⟩
      have HB8 := Lib.hid (HB7.out.trans (b8.mono HB7.out.size))
      have HLX8 := Lib.hid (HLX7.out.up b8 (Nat.le_refl _)); have HDS8 := Lib.hid (HDS7.out.upD b8 b8.size)
      clear b8 HLX7 HDS7 HM7 HM8 HB7
      go_wp2_with fail
      go_roundw
      case rel => exact ⟨k + 1, by go_num, by omega, HLX8.out, HDS8.out, HB8.out⟩
      case measure => simp [intOf]; omega
    · have hd : decide ((k : Int) < (nd : Int)) = false := by simp; omega
      go_wp2_with fail
      refine (awake5_any wr (HK.out.below HBW.out HK0.out) (Nat.lt_of_lt_of_le HK0.out HBW.out.size)).mono ?_
      rintro e w7 ⟨rfl, b7⟩
      have HB7 := Lib.hid (HBW.out.trans (b7.mono HBW.out.size))
      go_wp2_with fail
      go_ret
      exact ⟨rfl, HB7.out⟩
end Go.Proofs.YtfehgkpmjnmpeaaGreatDoor
