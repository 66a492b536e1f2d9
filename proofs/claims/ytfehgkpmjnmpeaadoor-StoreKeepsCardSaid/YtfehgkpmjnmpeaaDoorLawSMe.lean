/-
  StoreMerges: the walk of the law.
-/
import Derived.Test.YtfehgkpmjnmpeaaDoorGu
import Derived.Test.YtfehgkpmjnmpeaaDoorLawSPu
namespace Go.Proofs.YtfehgkpmjnmpeaaDoor
open Go.RowKit Go.Sort

/-- where nothing contradicts and there is room, Merge succeeds -/
theorem MrgR.ok {la lb : List Bl} {base : Nat} {e : Ending} {w' : World} (h : MrgR la lb base e w') (va : vldP (la.map bp) = true) (vb : vldP (lb.map bp) = true) (hc : lb.any (conP la) = false) (hlen : ∀ T, MrgL la lb T → T.length ≤ 256) :
    ∃ sp m cap L T, e = .returned (.tuple #[.slice sp m cap, .int .i64 0]) ∧ L.length = m ∧ m ≤ 256 ∧ MrgL la lb T ∧ L.map bp = T.map bp ∧ Sto w' base sp m cap L := by
  rcases h with ⟨h, _⟩ | ⟨_, ⟨h, _⟩ | ⟨_, T, hT, ⟨h, _⟩ | ⟨h1, sp, cap, L, m, he, hm, hL, hLT, hs⟩⟩⟩
  · rw [va, vb] at h; cases h
  · rw [hc] at h; cases h
  · have := hlen T hT; omega
  · exact ⟨sp, m, cap, L, T, he, hL, by omega, hT, hLT, hs⟩
theorem mrg_good {la lb T : List Bl} (h : MrgL la lb T) (hc : lb.any (conP la) = false) (ga : GoodP (la.map bp)) (gb : GoodP (lb.map bp)) : GoodP (T.map bp) :=
  ⟨h.asc.srtD, fun x hx => by rcases (mrg_bp h hc x).1 hx with h | h; exact ga.aud x h; exact gb.aud x h, fun x hx => by rcases (mrg_bp h hc x).1 hx with h | h; exact ga.sz x h; exact gb.sz x h⟩
theorem digs_up {w w' : World} {da : Option Addr} {n cap : Nat} {l : List (List Int)} (h : DigsIn w w.heap.size da n cap l) (hb : Below w.heap.size w w') : DigsIn w' w'.heap.size da n cap l :=
  ⟨h.len, h.digs, fun hn => by
    obtain ⟨b, off, e, hlt, hc, hr⟩ := h.cells hn
    exact ⟨b, off, e, Nat.lt_of_lt_of_le hlt hb.size, hc, fun i hi => range_below (hr i hi) hb hlt⟩⟩
theorem sto_small {w : World} {base : Nat} {sp : Option Addr} {n c : Nat} {l : List Bl} (h : Sto w base sp n c l) (g : GoodP (l.map bp)) : ∀ x ∈ l, x.n ≤ 1000000000000 := fun x hx => by
  have h1 := g.sz (bp x) (List.mem_map_of_mem hx)
  have h2 := (h.dat x hx).dat.src.len
  have h3 : x.b.length ≤ 262144 := h1
  omega
set_option maxRecDepth 100000 in
set_option maxHeartbeats 4000000 in
theorem storeMerges_any (pa : Option Addr) (np ncap : Nat) (ls : List Nl) (qa : Option Addr) (nq qcap : Nat) (lq : List Nl) (w : World) (hl : NlsIn w w.heap.size pa np ncap ls) (hq : NlsIn w w.heap.size qa nq qcap lq) (hk : KayIn w) (hk0 : 0 < w.heap.size) :
    Calls Tryd.prog 6 #[.slice pa np ncap, .slice qa nq qcap] w fun e w' => e = .returned (.bool true) ∧ Below w.heap.size w w' := by
  have HL := Lib.hid hl; have HQ := Lib.hid hq; have HK := Lib.hid hk; have HK0 := Lib.hid hk0
  clear hl hq hk hk0
  go_enter Tryd.func6, Tryd.ntmps6
  go_wp2_with fail
  refine (filled_any pa np ncap ls w HL.out).mono ?_
  rintro e w1 ⟨ga, na, ca, gda, nda, cda, la, da, rfl, hfa, hnda, b1⟩
  have HFA := Lib.hid hfa; have HB1 := Lib.hid b1
  have hna : na ≤ 12 := by have := hfa.few; omega
  clear hfa b1
  go_wp2_with fail
  refine (filled_any qa nq qcap lq w1 ((HQ.out.below HB1.out (Nat.le_refl _)).more HB1.out.size)).mono ?_
  rintro e w2 ⟨gb, nb, cb, gdb, ndb, cdb, lb, db, rfl, hfb, hndb, b2⟩
  have HFB := Lib.hid hfb; have HB2 := Lib.hid (HB1.out.trans (b2.mono HB1.out.size))
  have HSA2 := Lib.hid (HFA.out.sto.below b2); have HSB2 := Lib.hid hfb.sto
  have HDA2 := Lib.hid ((HFA.out.dg.below b2).digs HFA.out.dlen); have HDB2 := Lib.hid (hfb.dg.digs hfb.dlen)
  have hnb : nb ≤ 12 := by have := hfb.few; omega
  have VA := Lib.hid (HFA.out.good.vld (by rw [List.length_map, HFA.out.len]; omega)); have VB := Lib.hid (hfb.good.vld (by rw [List.length_map, hfb.len]; omega))
  have LA := Lib.hid HFA.out.len; have LB := Lib.hid hfb.len
  clear hfb b2
  go_wp2_with fail
  refine (rmerge_any ga na ca la gb nb cb lb w2 (HSA2.out.bls LA.out) (HSB2.out.bls LB.out) HSA2.out.own.nilcap (by omega) (by omega) VA.out VB.out).mono ?_
  rintro e w3 ⟨⟨sp3, n3, c3, c, rfl, hc⟩, b3⟩
  have HB3 := Lib.hid (HB2.out.trans (b3.mono HB2.out.size))
  have HSA3 := Lib.hid (HSA2.out.below b3); have HSB3 := Lib.hid (HSB2.out.below b3)
  have HDA3 := Lib.hid (digs_up HDA2.out b3); have HDB3 := Lib.hid (digs_up HDB2.out b3)
  have HC0 := Lib.hid hc
  clear b3 hc
  by_cases h0 : c = 0
  case neg =>
    have h0' : (c == 0) = false := beq_eq_false_iff_ne.2 h0
    clear HC0
    go_wp2_with fail
    refine (awake5_any w3 (HK.out.below HB3.out HK0.out) (Nat.lt_of_lt_of_le HK0.out HB3.out.size)).mono ?_
    rintro e w4 ⟨rfl, b4⟩
    have HB4 := Lib.hid (HB3.out.trans (b4.mono HB3.out.size))
    go_wp2_with fail
    go_ret
    exact ⟨rfl, HB4.out⟩
  subst h0
  obtain ⟨hc, T, hT, hT256⟩ := HC0.out rfl
  have HC := Lib.hid hc; have HT := Lib.hid hT; have HTN := Lib.hid hT256
  clear HC0 hc hT hT256
  have SA := Lib.hid (AscB.of_vld VA.out); have SB := Lib.hid (AscB.of_vld VB.out)
  have HCS := Lib.hid (con_swap SA.out HC.out)
  have HGT := Lib.hid (mrg_good HT.out HC.out HFA.out.good HFB.out.good)
  have HASA : Hid (∀ d ∈ da, (∃ y ∈ la, y.d = d) ∨ ∃ y ∈ lb, y.d = d) := fun d hd => .inl (HFA.out.all d hd)
  have HASB : Hid (∀ d ∈ db, (∃ y ∈ la, y.d = d) ∨ ∃ y ∈ lb, y.d = d) := fun d hd => .inr (HFB.out.all d hd)
  go_wp2_with fail
  refine (merge_any ga na ca la gb nb cb lb w3 (HSA3.out.bls LA.out) (HSB3.out.bls LB.out) HSA3.out.own.nilcap HSB3.out.own.nilcap (by omega) (by omega)).mono ?_
  rintro e w4 ⟨hm, b4⟩
  obtain ⟨spx, mx, cx, Lx, T2, rfl, hLx, hmx, hT2, hLT2, hsx⟩ := hm.ok VA.out VB.out HC.out (fun T' h' => by rw [h'.det HT.out]; exact HTN.out)
  have hTT := hT2.det HT.out
  subst hTT
  have HLX := Lib.hid hLT2; have HLNX := Lib.hid hLx
  have HB4 := Lib.hid (HB3.out.trans (b4.mono HB3.out.size))
  have HSX4 := Lib.hid (show Sto w4 w.heap.size spx mx cx Lx from ⟨hsx.own.base HB3.out.size, fun x hx => (hsx.dat x hx).base HB3.out.size⟩)
  have HSA4 := Lib.hid (HSA3.out.below b4); have HSB4 := Lib.hid (HSB3.out.below b4)
  have HDA4 := Lib.hid (digs_up HDA3.out b4); have HDB4 := Lib.hid (digs_up HDB3.out b4)
  have HGX := Lib.hid (show GoodP (Lx.map bp) by rw [hLT2]; exact HGT.out)
  clear hm hLx hT2 hLT2 hsx b4
  go_wp2_with fail
  refine (merge_any gb nb cb lb ga na ca la w4 (HSB4.out.bls LB.out) (HSA4.out.bls LA.out) HSB4.out.own.nilcap HSA4.out.own.nilcap (by omega) (by omega)).mono ?_
  rintro e w5 ⟨hm, b5⟩
  obtain ⟨spy, my, cy, Ly, T3, rfl, hLy, hmy, hT3, hLT3, hsy⟩ := hm.ok VB.out VA.out HCS.out (fun T' h' => by
    have := len_bp (mrg_same h' HCS.out HT.out HC.out (fun p => Or.comm))
    have := HTN.out; omega)
  have HXY := Lib.hid (show Lx.map bp = Ly.map bp by rw [HLX.out, hLT3]; exact mrg_same HT.out HC.out hT3 HCS.out (fun p => Or.comm))
  have hmxy : mx = my := by have h1 := len_bp HXY.out; have h2 := HLNX.out; omega
  have HLNY := Lib.hid hLy
  have HB5 := Lib.hid (HB4.out.trans (b5.mono HB4.out.size))
  have HSX5 := Lib.hid (HSX4.out.below b5)
  have HSY5 := Lib.hid (show Sto w5 w.heap.size spy my cy Ly from ⟨hsy.own.base HB4.out.size, fun x hx => (hsy.dat x hx).base HB4.out.size⟩)
  have HSA5 := Lib.hid (HSA4.out.below b5)
  have HDA5 := Lib.hid (digs_up HDA4.out b5); have HDB5 := Lib.hid (digs_up HDB4.out b5)
  clear hm hLy hmy hT3 hLT3 hsy b5
  subst hmxy
  have VX := Lib.hid (HGX.out.vld (by rw [List.length_map, HLNX.out]; exact hmx))
  have SX := Lib.hid (AscB.of_vld VX.out)
  have HCX := Lib.hid (show la.any (conP Lx) = false by
    rw [any_no]; intro y hy
    exact con_in SX.out (by rw [HLX.out, mrg_bp HT.out HC.out]; exact .inl (List.mem_map_of_mem hy)))
  have HEX : Hid (∀ p, p ∈ Lx.map bp ∨ p ∈ la.map bp ↔ p ∈ la.map bp ∨ p ∈ lb.map bp) := fun p => by
    rw [HLX.out, mrg_bp HT.out HC.out]
    constructor
    · rintro (h | h)
      · exact h
      · exact .inl h
    · exact .inl
  go_wp2_with fail
  refine (merge_any spx mx cx Lx ga na ca la w5 (HSX5.out.bls HLNX.out) (HSA5.out.bls LA.out) HSX5.out.own.nilcap HSA5.out.own.nilcap (by omega) (by omega)).mono ?_
  rintro e w6 ⟨hm, b6⟩
  obtain ⟨spz, mz, cz, Lz, T4, rfl, hLz, hmz, hT4, hLT4, hsz⟩ := hm.ok VX.out VA.out HCX.out (fun T' h' => by
    have := len_bp (mrg_same h' HCX.out HT.out HC.out HEX.out)
    have := HTN.out; omega)
  have HXZ := Lib.hid (show Lx.map bp = Lz.map bp by rw [HLX.out, hLT4]; exact (mrg_same hT4 HCX.out HT.out HC.out HEX.out).symm)
  have hmxz : mx = mz := by have h1 := len_bp HXZ.out; have h2 := HLNX.out; omega
  have HLNZ := Lib.hid hLz
  have HB6 := Lib.hid (HB5.out.trans (b6.mono HB5.out.size))
  have HSX6 := Lib.hid (HSX5.out.below b6); have HSY6 := Lib.hid (HSY5.out.below b6)
  have HSZ6 := Lib.hid (show Sto w6 w.heap.size spz mz cz Lz from ⟨hsz.own.base HB5.out.size, fun x hx => (hsz.dat x hx).base HB5.out.size⟩)
  have HDA6 := Lib.hid (digs_up HDA5.out b6); have HDB6 := Lib.hid (digs_up HDB5.out b6)
  clear hm hLz hmz hT4 hLT4 hsz b6
  subst hmxz
  have HSZX := Lib.hid (sto_small HSX6.out HGX.out)
  clear HSA2 HSA3 HSA4 HSA5 HSB2 HSB3 HSB4 HDA2 HDA3 HDA4 HDA5 HDB2 HDB3 HDB4 HDB5 HSX4 HSX5 HSY5
  go_wp2_with fail
  refine (same05_any spx mx cx Lx spy cy Ly w6 (HSX6.out.bls HLNX.out) (HSY6.out.bls HLNY.out) (by omega) HXY.out).mono ?_
  rintro e w7 ⟨rfl, b7⟩
  have HB7 := Lib.hid (HB6.out.trans (b7.mono HB6.out.size))
  have HSX7 := Lib.hid (HSX6.out.below b7); have HSZ7 := Lib.hid (HSZ6.out.below b7)
  have HDA7 := Lib.hid (digs_up HDA6.out b7); have HDB7 := Lib.hid (digs_up HDB6.out b7)
  clear b7 HSX6 HSY6 HSZ6 HDA6 HDB6
  go_wp2_with fail
  refine (same05_any spx mx cx Lx spz cz Lz w7 (HSX7.out.bls HLNX.out) (HSZ7.out.bls HLNZ.out) (by omega) HXZ.out).mono ?_
  rintro e w8 ⟨rfl, b8⟩
  have HB8 := Lib.hid (HB7.out.trans (b8.mono HB7.out.size))
  have HSX8 := Lib.hid (HSX7.out.below b8)
  have HDA8 := Lib.hid (digs_up HDA7.out b8); have HDB8 := Lib.hid (digs_up HDB7.out b8)
  clear b8 HSX7 HSZ7 HDA7 HDB7 HB7 HB6
  go_wp2_with fail
  go_loopw [17] (fun i wr => ∃ k : Nat, i = .int .i64 k ∧ k ≤ nda ∧ Hid (Below w8.heap.size w8 wr)) (fun i _ => nda - (intOf i).toNat)
  case atStart => exact ⟨0, rfl, Nat.zero_le _, Below.refl _ _⟩
  case round =>
    obtain ⟨k, rfl, hk, hbe⟩ := hrel
    have HBW := Lib.hid (HB8.out.trans (hbe.out.mono HB8.out.size))
    have HSXW := Lib.hid (HSX8.out.below hbe.out)
    by_cases hlt : k < nda
    · have hd : decide ((k : Int) < (nda : Int)) = true := by simp; omega
      obtain ⟨d, db, doff, hdk, hd32, rfl, hdb, hdc, hdr⟩ := digs_at (digs_up HDA8.out hbe.out) hlt
      have HDR := Lib.hid hdr; have HID := Lib.hid (info_d hd32); have HD32 := Lib.hid hd32
      have HAS := Lib.hid (mrg_has HT.out HC.out HLX.out (HASA.out d (List.mem_of_getElem? hdk)))
      have p1 : (0 : Int) ≤ (k : Int) := by omega
      have p2 : (k : Int) < (nda : Int) := by omega
      clear hdk hd32 hdr
      go_wp2_with (refine wpList_load_mid rfl 32 _ rfl db (doff + k * 32) rfl _ _ HDR.out Tryd.underlying32 rfl HID.out ?_)
      refine (get_any spx mx cx Lx d wr (HSXW.out.bls HLNX.out) (by omega) HSZX.out HD32.out).mono ?_
      rintro e w9 ⟨hcase, b9⟩
      have HE9 := Lib.hid (hbe.out.trans (b9.mono hbe.out.size))
      clear b9
      rcases hcase with ⟨rfl, hno⟩ | ⟨j, x, gx, rfl, _, _, _, _⟩
      · exfalso
        obtain ⟨z, hz, hzd⟩ := HAS.out
        exact hno z hz hzd
      · go_wp2_with fail
        go_roundw
        case rel => exact ⟨k + 1, by go_num, hlt, HE9.out⟩
        case measure => simp [intOf]; omega
    · obtain rfl : k = nda := by omega
      have hd : decide ((k : Int) < (k : Int)) = false := by simp
      have HDB9 := Lib.hid (digs_up HDB8.out hbe.out)
      have HB9 := Lib.hid HBW.out
      have HSX9 := Lib.hid HSXW.out
      clear HBW HSXW hbe HDB8 HSX8 HB8
      obtain ⟨wx, hwx⟩ : ∃ wx, wx = wr := ⟨_, rfl⟩
      subst hwx
      go_wp2_with fail
      go_loopw [20] (fun i wr => ∃ k : Nat, i = .int .i64 k ∧ k ≤ ndb ∧ Hid (Below wx.heap.size wx wr)) (fun i _ => ndb - (intOf i).toNat)
      case atStart => exact ⟨0, rfl, Nat.zero_le _, Below.refl _ _⟩
      case round =>
        obtain ⟨k, rfl, hk, hbe⟩ := hrel
        have HBW := Lib.hid (HB9.out.trans (hbe.out.mono HB9.out.size))
        have HSXW := Lib.hid (HSX9.out.below hbe.out)
        by_cases hlt : k < ndb
        · have hd : decide ((k : Int) < (ndb : Int)) = true := by simp; omega
          obtain ⟨d, db, doff, hdk, hd32, rfl, hdb, hdc, hdr⟩ := digs_at (digs_up HDB9.out hbe.out) hlt
          have HDR := Lib.hid hdr; have HID := Lib.hid (info_d hd32); have HD32 := Lib.hid hd32
          have HAS := Lib.hid (mrg_has HT.out HC.out HLX.out (HASB.out d (List.mem_of_getElem? hdk)))
          have p1 : (0 : Int) ≤ (k : Int) := by omega
          have p2 : (k : Int) < (ndb : Int) := by omega
          clear hdk hd32 hdr
          go_wp2_with (refine wpList_load_mid rfl 32 _ rfl db (doff + k * 32) rfl _ _ HDR.out Tryd.underlying32 rfl HID.out ?_)
          refine (get_any spx mx cx Lx d wr (HSXW.out.bls HLNX.out) (by omega) HSZX.out HD32.out).mono ?_
          rintro e w9 ⟨hcase, b9⟩
          have HE9 := Lib.hid (hbe.out.trans (b9.mono hbe.out.size))
          clear b9
          rcases hcase with ⟨rfl, hno⟩ | ⟨j, x, gx, rfl, _, _, _, _⟩
          · exfalso
            obtain ⟨z, hz, hzd⟩ := HAS.out
            exact hno z hz hzd
          · go_wp2_with fail
            go_roundw
            case rel => exact ⟨k + 1, by go_num, hlt, HE9.out⟩
            case measure => simp [intOf]; omega
        · obtain rfl : k = ndb := by omega
          have hd : decide ((k : Int) < (k : Int)) = false := by simp
          go_wp2_with fail
          refine (awake5_any wr (HK.out.below HBW.out HK0.out) (Nat.lt_of_lt_of_le HK0.out HBW.out.size)).mono ?_
          rintro e w9 ⟨rfl, b9⟩
          have HB9 := Lib.hid (HBW.out.trans (b9.mono HBW.out.size))
          go_wp2_with fail
          go_ret
          exact ⟨rfl, HB9.out⟩
end Go.Proofs.YtfehgkpmjnmpeaaDoor
