/-
  Stores: the walk of the reference's Merge, every way.
-/
import Derived.Test.YtfehgkpmjnmpeaaGreatDoorGu
namespace Go.Proofs.YtfehgkpmjnmpeaaGreatDoor
open Go.RowKit Go.Sort

/-- what the reference's Merge answers, where both are stores -/
def RMgR (la lb : List Bl) (e : Ending) (w' : World) : Prop := (lb.any (conP la) = true ∧ e = .returned (.tuple #[.slice none 0 0, .int .i64 9])) ∨
  (lb.any (conP la) = false ∧ ∃ T, MrgL la lb T ∧ ((256 < T.length ∧ e = .returned (.tuple #[.slice none 0 0, .int .i64 3])) ∨
    (T.length ≤ 256 ∧ ∃ sp m cap, e = .returned (.tuple #[.slice sp m cap, .int .i64 0]) ∧ T.length = m ∧ BlsIn w' w'.heap.size sp m cap T ∧ (sp = none → cap = 0))))
set_option maxRecDepth 100000 in
set_option maxHeartbeats 4000000 in
theorem rmergeV_any (spa : Option Addr) (na ca : Nat) (la : List Bl) (spb : Option Addr) (nb cb : Nat) (lb : List Bl) (w : World) (hla : BlsIn w w.heap.size spa na ca la) (hlb : BlsIn w w.heap.size spb nb cb lb) (hnla : spa = none → ca = 0) (hna : na ≤ 1000) (hnb : nb ≤ 1000) (va : vldP (la.map bp) = true) (vb : vldP (lb.map bp) = true) :
    Calls Tryz.prog 20 #[.slice spa na ca, .slice spb nb cb] w fun e w' => RMgR la lb e w' ∧ Below w.heap.size w w' := by
  have HA := Lib.hid hla; have HB := Lib.hid hlb; have HNA := Lib.hid hnla
  clear hla hlb hnla
  have HVA := Lib.hid (rvalid_bls spa na ca la w HA.out (by omega))
  have HVB := Lib.hid (fun w1 h => rvalid_bls spb nb cb lb w1 h (by omega))
  have SA := Lib.hid (AscB.of_vld va); have SB := Lib.hid (AscB.of_vld vb)
  rw [va] at HVA; rw [vb] at HVB
  clear va vb
  go_enter Tryz.func20, Tryz.ntmps20
  go_wp2_with fail
  refine HVA.out.mono ?_
  rintro e w1 ⟨rfl, hb1⟩
  have HB1 := Lib.hid hb1; clear hb1
  go_wp2_with fail
  refine (HVB.out w1 (HB.out.up HB1.out (Nat.le_refl _))).mono ?_
  rintro e w2 ⟨rfl, hb2⟩
  have HB2 := Lib.hid (HB1.out.trans (hb2.mono HB1.out.size)); clear hb2
  go_wp2_with (first
    | (refine wpList_build0 rfl 22 51 rfl build0B ?_; intro v3 w3 hv3 hw3; have HO3 := (by rw [hv3.out, hw3.out]; exact Lib.hid (own0B w2) : Hid (OwnB w3 w2.heap.size v3 [])); have HB3 := (by rw [hw3.out]; exact Lib.hid (HB2.out.alloc HB2.out.size _) : Hid (Below w.heap.size w w3)); have HZ3 := (by rw [hw3.out]; exact Lib.hid (by simp) : Hid (w2.heap.size ≤ w3.heap.size)); clear hv3 hw3)
    | (at_builtin; refine wpList_append_bls rfl (.tmp 18) (.tmp 19) rfl w2.heap.size _ [] 0 rfl rfl HO3.out spa na ca _ la rfl (HA.out.up HB3.out (Nat.le_refl _)) HNA.out (by omega) HZ3.out ?_; intro sp4 c4 w4 HO4 HB4 HG4))
  have HBE4 := Lib.hid (HB3.out.trans (HB4.out.mono HB2.out.size))
  have HD4 : Hid (∀ y ∈ la, DatIn w4 w4.heap.size y) := fun y hy => (HA.out.up HBE4.out (Nat.le_refl _)).dat y hy
  have HLA := Lib.hid HA.out.len
  have hza : (0 : Nat) + na = na := Nat.zero_add _
  rw [hza] at HO4
  clear hza
  go_loopw [6, 7] (fun v i wr => ∃ (k m c : Nat) (g : Option Addr) (L : List Bl), v = .slice g m c ∧ i = .int .i64 k ∧ k ≤ nb ∧ Hid (OwnB wr w.heap.size (.slice g m c) L ∧ L.length = m ∧ (∀ y ∈ L, DatIn wr wr.heap.size y) ∧ ((lb.take k).any (conP la) = false ∧ MrgL la (lb.take k) L) ∧ m ≤ na + k ∧ Below w.heap.size w wr)) (fun _ i _ => nb - (intOf i).toNat)
  case atStart => exact ⟨0, na, c4, sp4, la, rfl, rfl, Nat.zero_le _, HO4.out.base HB2.out.size, HLA.out, HD4.out, ⟨rfl, MrgL.zero SA.out lb⟩, Nat.le_refl _, HBE4.out⟩
  case round =>
    clear HO4 HB4 HG4 HBE4 HD4 HO3 HB3 HZ3
    obtain ⟨k, m, c, g, L, rfl, rfl, hk, H⟩ := hrel
    have HO := Lib.hid H.out.1; have HLN := Lib.hid H.out.2.1; have HDL := Lib.hid H.out.2.2.1; have HNO := Lib.hid H.out.2.2.2.1.1; have HMG := Lib.hid H.out.2.2.2.1.2; have hmk := H.out.2.2.2.2.1; have HBE := Lib.hid H.out.2.2.2.2.2
    clear H
    by_cases hlt : k < nb
    · have hd : decide ((k : Int) < (nb : Int)) = true := by simp; omega
      obtain ⟨b, off, rfl, hbb, hcap, hr⟩ := HB.out.cells (by omega)
      obtain ⟨y, hy⟩ : ∃ y, lb[k]? = some y := ⟨lb[k]'(by have := HB.out.len; omega), List.getElem?_eq_getElem _⟩
      have HYM := Lib.hid (List.mem_of_getElem? hy)
      have HYR := Lib.hid (range_belowG (hr k y hy) HBE.out hbb)
      have HBB := Lib.hid (Nat.lt_of_lt_of_le hbb HBE.out.size)
      have HOY := Lib.hid (HB.out.ok y HYM.out)
      have HIY := Lib.hid (info_d HOY.out); have HIYB := Lib.hid (info_b HOY.out)
      have HYD := Lib.hid (rngB_d HYR.out)
      have HYX := Lib.hid hy
      have p1 : (0 : Int) ≤ (k : Int) := by omega
      have p2 : (k : Int) < (nb : Int) := by omega
      clear hr hy hbb
      go_wp2_with (refine wpList_load_mid rfl 32 _ rfl b (off + k * 33) rfl _ _ HYD.out Tryz.underlying32 rfl HIY.out ?_)
      refine (rget_any spa na ca la y.d wr (HA.out.up HBE.out (Nat.le_refl _)) (by omega) HOY.out).mono ?_
      rintro e w5 ⟨hcase, hb5⟩
      have HBE5 := Lib.hid (HBE.out.trans (hb5.mono HBE.out.size))
      have HYR5 := Lib.hid (range_belowG HYR.out hb5 HBB.out)
      have HO5 := Lib.hid (HO.out.below hb5)
      have HDL5 : Hid (∀ z ∈ L, DatIn w5 w5.heap.size z) := fun z hz => (HDL.out z hz).up hb5 (Nat.le_refl _)
      have HBB5 := Lib.hid (Nat.lt_of_lt_of_le HBB.out hb5.size)
      clear hb5 HYD
      rcases hcase with ⟨rfl, hno⟩ | ⟨j, x, rfl, hx, hxd, hbef⟩
      · have HNP := Lib.hid (conP_none (y := y) hno)
        have HNN := Lib.hid hno
        clear hno
        go_wp2_with fail
        go_quiet (fail)
        have HBD := Lib.hid (HBE5.out.trans (show Below w.heap.size w5 (World.drewN w5 nq) from ⟨rfl, rfl, rfl, Nat.le_refl _, fun _ _ => rfl⟩))
        have HBQ : Hid (Below w5.heap.size w5 (World.drewN w5 nq)) := ⟨rfl, rfl, rfl, Nat.le_refl _, fun _ _ => rfl⟩
        have HOD := Lib.hid (HO5.out.below HBQ.out)
        have HYRD := Lib.hid (range_belowG HYR5.out HBQ.out HBB5.out)
        have HDYD := Lib.hid ((HB.out.dat y HYM.out).up HBD.out (Nat.le_refl _))
        have HDLD : Hid (∀ z ∈ L, DatIn (World.drewN w5 nq) (World.drewN w5 nq).heap.size z) := fun z hz => (HDL5.out z hz).up HBQ.out (Nat.le_refl _)
        generalize World.drewN w5 nq = wd at *
        go_wp2_with (refine wpList_load_mid rfl 51 _ rfl b (off + k * 33) rfl _ _ HYRD.out Tryz.underlying51 rfl HIYB.out ?_)
        refine (rinsertB_any g m c L y wd (HOD.out.bls HLN.out HDLD.out) HOD.out.nilcap HOY.out HDYD.out (by omega)).mono ?_
        rintro e w6 ⟨sp6, c6, j6, rfl, ho6, ha6, hs6, hb6⟩
        have HMG6 := Lib.hid (HMG.out.ins SB.out HYX.out HNN.out ha6 hs6)
        clear ha6 hs6
        have HO6 := Lib.hid (ho6.base HBD.out.size)
        have HBE6 := Lib.hid (HBD.out.trans (hb6.mono HBD.out.size))
        have HDL6 : Hid (∀ z ∈ L.take j6 ++ y :: L.drop j6, DatIn w6 w6.heap.size z) := fun z hz => by
          rcases List.mem_append.1 hz with hz | hz
          · exact (HDLD.out z (List.mem_of_mem_take hz)).up hb6 (Nat.le_refl _)
          · rcases List.mem_cons.1 hz with rfl | hz
            · exact HDYD.out.up hb6 (Nat.le_refl _)
            · exact (HDLD.out z (List.mem_of_mem_drop hz)).up hb6 (Nat.le_refl _)
        have HLN6 := Lib.hid (show (L.take j6 ++ y :: L.drop j6).length = m + 1 by
          have h1 : (L.take j6).length + (L.drop j6).length = L.length := by rw [← List.length_append, List.take_append_drop]
          rw [List.length_append, List.length_cons]; have := HLN.out; omega)
        clear ho6 hb6
        go_wp2_with fail
        go_roundw
        case rel => exact ⟨k + 1, m + 1, c6, sp6, _, rfl, by go_num, hlt, HO6.out, HLN6.out, HDL6.out, ⟨any_take HYX.out HNO.out HNP.out, HMG6.out⟩, by omega, HBE6.out⟩
        case measure => simp [intOf]; omega
      · have HCP := Lib.hid (conP_some hx hxd hbef)
        have HDX := Lib.hid ((HA.out.dat x (List.mem_of_getElem? hx)).up HBE5.out.drew (Nat.le_refl _))
        have HDY := Lib.hid ((HB.out.dat y HYM.out).up HBE5.out.drew (Nat.le_refl _))
        have HYC := Lib.hid (rngB_s (range_belowG HYR5.out ((Below.refl w5.heap.size w5).drew) HBB5.out) HOY.out)
        have HUI := Lib.hid (uOf_inj HDX.out.src.byt HDY.out.src.byt)
        have HMG6 := Lib.hid (HMG.out.skip HYX.out ⟨x, List.mem_of_getElem? hx, hxd⟩)
        clear hx hxd hbef
        obtain ⟨u1, hu1⟩ : ∃ u : ByteArray, ⟨(uOf x.b).toArray⟩ = u := ⟨_, rfl⟩
        obtain ⟨u2, hu2⟩ : ∃ u : ByteArray, ⟨(uOf y.b).toArray⟩ = u := ⟨_, rfl⟩
        have HM := Lib.hid (show MgS w5.drew ⟨b, off + k * 33 + 32, none⟩ (.slice x.sp x.n x.cap) (.slice y.sp y.n y.cap) u1 u2 from ⟨HYC.out, by rw [← hu1]; exact conv_src HDX.out.src _, by rw [← hu2]; exact conv_src HDY.out.src _⟩)
        rw [hu1, hu2] at HUI
        clear hu1 hu2
        by_cases hxy : x.b = y.b
        · have hue := HUI.out.2 hxy
          subst hue
          have HNP := Lib.hid (show conP la y = false by rw [HCP.out]; simp [hxy])
          clear hxy
          go_wp2_with fail
          refine wp_region_held_drew (S := fun w' => MgS w' ⟨b, off + k * 33 + 32, none⟩ (.slice x.sp x.n x.cap) (.slice y.sp y.n y.cap) u1 u1) (by kernel_rfl) HM.out (fun hHeld => ?_)
          refine wpAnyH_take (i := 0) (oi := _) (v := ?v0n1) rfl (by kernel_rfl) (by kernel_rfl) (by kernel_rfl) (fun _ _ _ h => h) (Or.inl ⟨by rfl, ?hy0n1⟩) (by assumption) ?rest0n1
          case hy0n1 =>
            intro w' hSw
            go_simp
            try with_reducible rfl
          try simp only [Act.put, List.getElem_toArray, List.getElem_cons_succ, List.getElem_cons_zero, List.setIfInBounds_toArray, List.set_cons_zero, List.set_cons_succ]
          refine wpAnyH_take (i := 1) (oi := _) (v := ?v1n2) rfl (by kernel_rfl) (by kernel_rfl) (by kernel_rfl) (fun _ _ _ h => h) (Or.inl ⟨by rfl, ?hy1n2⟩) (by assumption) ?rest1n2
          case hy1n2 =>
            intro w' hSw
            go_simp
            try with_reducible rfl
          try simp only [Act.put, List.getElem_toArray, List.getElem_cons_succ, List.getElem_cons_zero, List.setIfInBounds_toArray, List.set_cons_zero, List.set_cons_succ]
          refine wpAnyH_take (i := 2) (oi := _) (v := ?v2n3) rfl (by kernel_rfl) (by kernel_rfl) (by kernel_rfl) (fun _ _ _ h => h) (Or.inl ⟨by rfl, ?hy2n3⟩) (by assumption) ?rest2n3
          case hy2n3 =>
            intro w' hSw
            go_simp
            try with_reducible rfl
          try simp only [Act.put, List.getElem_toArray, List.getElem_cons_succ, List.getElem_cons_zero, List.setIfInBounds_toArray, List.set_cons_zero, List.set_cons_succ]
          refine wpAnyH_take (i := 3) (oi := _) (v := ?v3n4) rfl (by kernel_rfl) (by kernel_rfl) (by kernel_rfl) (fun _ _ _ h => h) (Or.inl ⟨by rfl, ?hy3n4⟩) (by assumption) ?rest3n4
          case hy3n4 =>
            intro w' hSw
            have h1 := hSw.k1
            go_simp
            try with_reducible rfl
          try simp only [Act.put, List.getElem_toArray, List.getElem_cons_succ, List.getElem_cons_zero, List.setIfInBounds_toArray, List.set_cons_zero, List.set_cons_succ]
          refine wpAnyH_take (i := 4) (oi := _) (v := ?v4n5) rfl (by kernel_rfl) (by kernel_rfl) (by kernel_rfl) (fun _ _ _ h => h) (Or.inl ⟨by rfl, ?hy4n5⟩) (by assumption) ?rest4n5
          case hy4n5 =>
            intro w' hSw
            go_simp
            try with_reducible rfl
          try simp only [Act.put, List.getElem_toArray, List.getElem_cons_succ, List.getElem_cons_zero, List.setIfInBounds_toArray, List.set_cons_zero, List.set_cons_succ]
          refine wpAnyH_take (i := 5) (oi := _) (v := ?v5n6) rfl (by kernel_rfl) (by kernel_rfl) (by kernel_rfl) (fun _ _ _ h => h) (Or.inl ⟨by rfl, ?hy5n6⟩) (by assumption) ?rest5n6
          case hy5n6 =>
            intro w' hSw
            go_simp
            try with_reducible rfl
          try simp only [Act.put, List.getElem_toArray, List.getElem_cons_succ, List.getElem_cons_zero, List.setIfInBounds_toArray, List.set_cons_zero, List.set_cons_succ]
          refine wpAnyH_take (i := 6) (oi := _) (v := ?v6n7) rfl (by kernel_rfl) (by kernel_rfl) (by kernel_rfl) (fun _ _ _ h => h) (Or.inl ⟨by rfl, ?hy6n7⟩) (by assumption) ?rest6n7
          case hy6n7 =>
            intro w' hSw
            go_simp
            try with_reducible rfl
          try simp only [Act.put, List.getElem_toArray, List.getElem_cons_succ, List.getElem_cons_zero, List.setIfInBounds_toArray, List.set_cons_zero, List.set_cons_succ]
          refine wpAnyH_take (i := 7) (oi := _) (v := ?v7n8) rfl (by kernel_rfl) (by kernel_rfl) (by kernel_rfl) (fun _ _ _ h => h) (Or.inl ⟨by rfl, ?hy7n8⟩) (by assumption) ?rest7n8
          case hy7n8 =>
            intro w' hSw
            go_simp
            try with_reducible rfl
          try simp only [Act.put, List.getElem_toArray, List.getElem_cons_succ, List.getElem_cons_zero, List.setIfInBounds_toArray, List.set_cons_zero, List.set_cons_succ]
          refine wpAnyH_take (i := 8) (oi := _) (v := ?v8n9) rfl (by kernel_rfl) (by kernel_rfl) (by kernel_rfl) (fun _ _ _ h => h) (Or.inl ⟨by rfl, ?hy8n9⟩) (by assumption) ?rest8n9
          case hy8n9 =>
            intro w' hSw
            have h1 := hSw.c2
            go_simp
            try with_reducible rfl
          try simp only [Act.put, List.getElem_toArray, List.getElem_cons_succ, List.getElem_cons_zero, List.setIfInBounds_toArray, List.set_cons_zero, List.set_cons_succ]
          refine wpAnyH_take (i := 9) (oi := _) (v := ?v9n10) rfl (by kernel_rfl) (by kernel_rfl) (by kernel_rfl) (fun _ _ _ h => h) (Or.inl ⟨by rfl, ?hy9n10⟩) (by assumption) ?rest9n10
          case hy9n10 =>
            intro w' hSw
            have h1 := hSw.k2
            go_simp
            try with_reducible rfl
          try simp only [Act.put, List.getElem_toArray, List.getElem_cons_succ, List.getElem_cons_zero, List.setIfInBounds_toArray, List.set_cons_zero, List.set_cons_succ]
          refine wpAnyH_take (i := 10) (oi := _) (v := ?v10n11) rfl (by kernel_rfl) (by kernel_rfl) (by kernel_rfl) (fun _ _ _ h => h) (Or.inl ⟨by rfl, ?hy10n11⟩) (by assumption) ?rest10n11
          case hy10n11 =>
            intro w' hSw
            go_simp
            try with_reducible rfl
          try simp only [Act.put, List.getElem_toArray, List.getElem_cons_succ, List.getElem_cons_zero, List.setIfInBounds_toArray, List.set_cons_zero, List.set_cons_succ]
          refine wpAnyH_take (i := 11) (oi := _) (v := ?v11n12) rfl (by kernel_rfl) (by kernel_rfl) (by kernel_rfl) (fun _ _ _ h => h) (Or.inl ⟨by rfl, ?hy11n12⟩) (by assumption) ?rest11n12
          case hy11n12 =>
            intro w' hSw
            go_simp
            try with_reducible rfl
          try simp only [Act.put, List.getElem_toArray, List.getElem_cons_succ, List.getElem_cons_zero, List.setIfInBounds_toArray, List.set_cons_zero, List.set_cons_succ]
          refine wpAnyH_done (by kernel_rfl) ?_ _
          clear hHeld
          have HBD := Lib.hid HBE5.out.drew
          have HOD := Lib.hid (HO5.out.below ((Below.refl w5.heap.size w5).drew))
          have HDLD : Hid (∀ z ∈ L, DatIn w5.drew w5.drew.heap.size z) := fun z hz => (HDL5.out z hz).up ((Below.refl w5.heap.size w5).drew) (Nat.le_refl _)
          go_wp2_with fail
          go_roundw
          case rel => exact ⟨k + 1, m, c, g, L, rfl, by go_num, hlt, HOD.out, HLN.out, HDLD.out, ⟨any_take HYX.out HNO.out HNP.out, HMG6.out⟩, by omega, HBD.out⟩
          case measure => simp [intOf]; omega
        · have hue : ¬ u1 = u2 := fun e => hxy (HUI.out.1 e)
          have hue1 : (u1.toList == u2.toList) = false := by
            rw [beq_eq_false_iff_ne]
            intro e
            rw [ByteArray.toList_eq, ByteArray.toList_eq] at e
            exact hue (ByteArray.ext (Array.toList_inj.1 e))
          have hue2 : (u1.toList != u2.toList) = true := by rw [bne, hue1]; rfl
          have HCT := Lib.hid (show lb.any (conP la) = true from List.any_eq_true.2 ⟨y, HYM.out, by rw [HCP.out]; simp [hxy]⟩)
          clear hxy
          go_wp2_with fail
          refine wp_region_held_drew (S := fun w' => MgS w' ⟨b, off + k * 33 + 32, none⟩ (.slice x.sp x.n x.cap) (.slice y.sp y.n y.cap) u1 u2) (by kernel_rfl) HM.out (fun hHeld => ?_)
          refine wpAnyH_take (i := 0) (oi := _) (v := ?v0n13) rfl (by kernel_rfl) (by kernel_rfl) (by kernel_rfl) (fun _ _ _ h => h) (Or.inl ⟨by rfl, ?hy0n13⟩) (by assumption) ?rest0n13
          case hy0n13 =>
            intro w' hSw
            go_simp
            try with_reducible rfl
          try simp only [Act.put, List.getElem_toArray, List.getElem_cons_succ, List.getElem_cons_zero, List.setIfInBounds_toArray, List.set_cons_zero, List.set_cons_succ]
          refine wpAnyH_take (i := 1) (oi := _) (v := ?v1n14) rfl (by kernel_rfl) (by kernel_rfl) (by kernel_rfl) (fun _ _ _ h => h) (Or.inl ⟨by rfl, ?hy1n14⟩) (by assumption) ?rest1n14
          case hy1n14 =>
            intro w' hSw
            go_simp
            try with_reducible rfl
          try simp only [Act.put, List.getElem_toArray, List.getElem_cons_succ, List.getElem_cons_zero, List.setIfInBounds_toArray, List.set_cons_zero, List.set_cons_succ]
          refine wpAnyH_take (i := 2) (oi := _) (v := ?v2n15) rfl (by kernel_rfl) (by kernel_rfl) (by kernel_rfl) (fun _ _ _ h => h) (Or.inl ⟨by rfl, ?hy2n15⟩) (by assumption) ?rest2n15
          case hy2n15 =>
            intro w' hSw
            go_simp
            try with_reducible rfl
          try simp only [Act.put, List.getElem_toArray, List.getElem_cons_succ, List.getElem_cons_zero, List.setIfInBounds_toArray, List.set_cons_zero, List.set_cons_succ]
          refine wpAnyH_take (i := 3) (oi := _) (v := ?v3n16) rfl (by kernel_rfl) (by kernel_rfl) (by kernel_rfl) (fun _ _ _ h => h) (Or.inl ⟨by rfl, ?hy3n16⟩) (by assumption) ?rest3n16
          case hy3n16 =>
            intro w' hSw
            have h1 := hSw.k1
            go_simp
            try with_reducible rfl
          try simp only [Act.put, List.getElem_toArray, List.getElem_cons_succ, List.getElem_cons_zero, List.setIfInBounds_toArray, List.set_cons_zero, List.set_cons_succ]
          refine wpAnyH_take (i := 4) (oi := _) (v := ?v4n17) rfl (by kernel_rfl) (by kernel_rfl) (by kernel_rfl) (fun _ _ _ h => h) (Or.inl ⟨by rfl, ?hy4n17⟩) (by assumption) ?rest4n17
          case hy4n17 =>
            intro w' hSw
            go_simp
            try with_reducible rfl
          try simp only [Act.put, List.getElem_toArray, List.getElem_cons_succ, List.getElem_cons_zero, List.setIfInBounds_toArray, List.set_cons_zero, List.set_cons_succ]
          refine wpAnyH_take (i := 5) (oi := _) (v := ?v5n18) rfl (by kernel_rfl) (by kernel_rfl) (by kernel_rfl) (fun _ _ _ h => h) (Or.inl ⟨by rfl, ?hy5n18⟩) (by assumption) ?rest5n18
          case hy5n18 =>
            intro w' hSw
            go_simp
            try with_reducible rfl
          try simp only [Act.put, List.getElem_toArray, List.getElem_cons_succ, List.getElem_cons_zero, List.setIfInBounds_toArray, List.set_cons_zero, List.set_cons_succ]
          refine wpAnyH_take (i := 6) (oi := _) (v := ?v6n19) rfl (by kernel_rfl) (by kernel_rfl) (by kernel_rfl) (fun _ _ _ h => h) (Or.inl ⟨by rfl, ?hy6n19⟩) (by assumption) ?rest6n19
          case hy6n19 =>
            intro w' hSw
            go_simp
            try with_reducible rfl
          try simp only [Act.put, List.getElem_toArray, List.getElem_cons_succ, List.getElem_cons_zero, List.setIfInBounds_toArray, List.set_cons_zero, List.set_cons_succ]
          refine wpAnyH_take (i := 7) (oi := _) (v := ?v7n20) rfl (by kernel_rfl) (by kernel_rfl) (by kernel_rfl) (fun _ _ _ h => h) (Or.inl ⟨by rfl, ?hy7n20⟩) (by assumption) ?rest7n20
          case hy7n20 =>
            intro w' hSw
            go_simp
            try with_reducible rfl
          try simp only [Act.put, List.getElem_toArray, List.getElem_cons_succ, List.getElem_cons_zero, List.setIfInBounds_toArray, List.set_cons_zero, List.set_cons_succ]
          refine wpAnyH_take (i := 8) (oi := _) (v := ?v8n21) rfl (by kernel_rfl) (by kernel_rfl) (by kernel_rfl) (fun _ _ _ h => h) (Or.inl ⟨by rfl, ?hy8n21⟩) (by assumption) ?rest8n21
          case hy8n21 =>
            intro w' hSw
            have h1 := hSw.c2
            go_simp
            try with_reducible rfl
          try simp only [Act.put, List.getElem_toArray, List.getElem_cons_succ, List.getElem_cons_zero, List.setIfInBounds_toArray, List.set_cons_zero, List.set_cons_succ]
          refine wpAnyH_take (i := 9) (oi := _) (v := ?v9n22) rfl (by kernel_rfl) (by kernel_rfl) (by kernel_rfl) (fun _ _ _ h => h) (Or.inl ⟨by rfl, ?hy9n22⟩) (by assumption) ?rest9n22
          case hy9n22 =>
            intro w' hSw
            have h1 := hSw.k2
            go_simp
            try with_reducible rfl
          try simp only [Act.put, List.getElem_toArray, List.getElem_cons_succ, List.getElem_cons_zero, List.setIfInBounds_toArray, List.set_cons_zero, List.set_cons_succ]
          refine wpAnyH_take (i := 10) (oi := _) (v := ?v10n23) rfl (by kernel_rfl) (by kernel_rfl) (by kernel_rfl) (fun _ _ _ h => h) (Or.inl ⟨by rfl, ?hy10n23⟩) (by assumption) ?rest10n23
          case hy10n23 =>
            intro w' hSw
            go_simp
            try with_reducible rfl
          try simp only [Act.put, List.getElem_toArray, List.getElem_cons_succ, List.getElem_cons_zero, List.setIfInBounds_toArray, List.set_cons_zero, List.set_cons_succ]
          refine wpAnyH_take (i := 11) (oi := _) (v := ?v11n24) rfl (by kernel_rfl) (by kernel_rfl) (by kernel_rfl) (fun _ _ _ h => h) (Or.inl ⟨by rfl, ?hy11n24⟩) (by assumption) ?rest11n24
          case hy11n24 =>
            intro w' hSw
            go_simp
            try with_reducible rfl
          try simp only [Act.put, List.getElem_toArray, List.getElem_cons_succ, List.getElem_cons_zero, List.setIfInBounds_toArray, List.set_cons_zero, List.set_cons_succ]
          refine wpAnyH_done (by kernel_rfl) ?_ _
          clear hHeld
          have HBD := Lib.hid HBE5.out.drew
          go_wp2_with fail
          go_ret2
          exact ⟨.inl ⟨HCT.out, rfl⟩, HBD.out⟩
    · obtain rfl : k = nb := by omega
      have hd : decide ((k : Int) < (k : Int)) = false := by simp
      have HF : Hid (lb.any (conP la) = false) := by have := HNO.out; rw [List.take_of_length_le (by rw [HB.out.len]; exact Nat.le_refl _)] at this; exact this
      have HMF : Hid (MrgL la lb L) := by have := HMG.out; rw [List.take_of_length_le (by rw [HB.out.len]; exact Nat.le_refl _)] at this; exact this
      by_cases hgt : m ≤ 256
      · have hd5 : decide ((m : Int) > 256) = false := by simp; omega
        go_wp2_with fail
        go_ret2
        exact ⟨.inr ⟨HF.out, L, HMF.out, .inr ⟨by have := HLN.out; omega, g, m, c, rfl, HLN.out, HO.out.bls HLN.out HDL.out, HO.out.nilcap⟩⟩, HBE.out⟩
      · have hd5 : decide ((m : Int) > 256) = true := by simp; omega
        go_wp2_with fail
        go_ret2
        exact ⟨.inr ⟨HF.out, L, HMF.out, .inl ⟨by have := HLN.out; omega, rfl⟩⟩, HBE.out⟩

set_option maxRecDepth 100000 in
set_option maxHeartbeats 1000000 in
theorem rmergeN_any (spa : Option Addr) (na ca : Nat) (la : List Bl) (spb : Option Addr) (nb cb : Nat) (lb : List Bl) (w : World) (hla : BlsIn w w.heap.size spa na ca la) (hlb : BlsIn w w.heap.size spb nb cb lb) (hna : na ≤ 1000) (hnb : nb ≤ 1000) (hv : (vldP (la.map bp) && vldP (lb.map bp)) = false) :
    Calls Tryz.prog 20 #[.slice spa na ca, .slice spb nb cb] w fun e w' => e = .returned (.tuple #[.slice none 0 0, .int .i64 1]) ∧ Below w.heap.size w w' := by
  have HB := Lib.hid hlb
  have HVA := Lib.hid (rvalid_bls spa na ca la w hla (by omega))
  have HVB := Lib.hid (fun w1 h => rvalid_bls spb nb cb lb w1 h (by omega))
  clear hla hlb
  cases ha : vldP (la.map bp)
  · rw [ha] at HVA
    clear ha hv
    go_enter Tryz.func20, Tryz.ntmps20
    go_wp2_with fail
    refine HVA.out.mono ?_
    rintro e w1 ⟨rfl, hb1⟩
    have HB1 := Lib.hid hb1; clear hb1
    go_wp2_with fail
    go_ret2
    exact ⟨rfl, HB1.out⟩
  · rw [ha] at HVA hv
    have hb : vldP (lb.map bp) = false := by simpa using hv
    rw [hb] at HVB
    clear ha hv hb
    go_enter Tryz.func20, Tryz.ntmps20
    go_wp2_with fail
    refine HVA.out.mono ?_
    rintro e w1 ⟨rfl, hb1⟩
    have HB1 := Lib.hid hb1; clear hb1
    go_wp2_with fail
    refine (HVB.out w1 (HB.out.up HB1.out (Nat.le_refl _))).mono ?_
    rintro e w2 ⟨rfl, hb2⟩
    have HB2 := Lib.hid (HB1.out.trans (hb2.mono HB1.out.size)); clear hb2
    go_wp2_with fail
    go_ret2
    exact ⟨rfl, HB2.out⟩
end Go.Proofs.YtfehgkpmjnmpeaaGreatDoor
