/-
  The walk of the reference's Decode: for all bytes.
-/
import Derived.Test.YtdjknefbaclleaaGreatDoorGd
import Derived.Test.YtdjknefbaclleaaGreatDoorGc
namespace Go.Proofs.YtdjknefbaclleaaGreatDoor
open Go.RowKit

theorem RUnwS_any (s : ByteArray) (w : World) (hs : s.size ≤ 1099511627776) :
    Calls Tryz.prog 56 #[.string s] w fun e w' => (match unwS s with | some x => e = .returned (.tuple #[.string x, .bool true]) | none => e = .returned (.tuple #[.string ⟨#[]⟩, .bool false])) ∧ Below w.heap.size w w' :=
  (refUnword_any s w hs).mono fun e w' h => by
    unfold UnwRes at h
    unfold unwS
    cases hu : unword s.data.toList with
    | none => rw [hu] at h; exact h
    | some l => rw [hu] at h; exact h
theorem take_ext (l : List UInt8) (k : Nat) : (⟨(l.take k).toArray⟩ : ByteArray) = (⟨l.toArray⟩ : ByteArray).extract 0 k := by
  apply ByteArray.ext
  apply Array.ext'
  rw [ByteArray.data_extract, Array.toList_extract, List.extract_eq_take_drop]
  simp
set_option maxRecDepth 100000 in
set_option maxHeartbeats 2000000 in
theorem refDecode_any (sp : Option Addr) (n cap : Nat) (l : List UInt8) (w : World) (hs : BSrc w w.heap.size sp n cap l) :
    Calls Tryz.prog 40 #[.slice sp n cap] w (DecRes w (decC ⟨l.toArray⟩)) := by
  have hlen : (⟨l.toArray⟩ : ByteArray).size = n := by rw [Lib.size_eq]; exact hs.len
  by_cases hbig : 262144 < n
  · have hd : decide ((n : Int) > 262144) = true := by simp; omega
    have HR : Hid (decC ⟨l.toArray⟩ = (3, [])) := by show _ = _; unfold decC; rw [if_pos (by omega)]
    clear hbig hlen
    go_enter Tryz.func40, Tryz.ntmps40
    go_wp2_with fail
    go_ret2
    exact decRes_no HR.out rfl (Below.refl _ _)
  have hd : decide ((n : Int) > 262144) = false := by simp; omega
  have HR0 : Hid (decC ⟨l.toArray⟩ = match rdoc ⟨l.toArray⟩ with | none => (2, []) | some L => if chk L = 0 then (0, L) else (2, [])) := by show _ = _; unfold decC; rw [if_neg (by omega)]; cases rdoc ⟨l.toArray⟩ <;> rfl
  by_cases h0 : n = 0
  · have hl : l = [] := List.eq_nil_of_length_eq_zero (by rw [hs.len]; exact h0)
    subst h0 hl
    have HR : Hid (decC ⟨([] : List UInt8).toArray⟩ = (0, [])) := by show _ = _; rw [HR0.out]; rfl
    clear hs hbig
    go_enter Tryz.func40, Tryz.ntmps40
    go_wp2_with fail
    go_ret2
    exact decRes_no HR.out rfl (Below.refl _ _)
  have hnb : n ≤ 262144 := by omega
  have e0 : ((n : Int) == 0) = false := by simp; omega
  obtain ⟨bb, off, rfl, hbb, hcap, hc⟩ := hs.cells (by omega)
  have hll := hs.len
  have hlt1 : n - 1 < l.length := by omega
  have c1 := hc (n - 1) hlt1
  have q0 : (0 : Int) ≤ (n : Int) - 1 := by omega
  have q1 : (n : Int) - 1 < (n : Int) := by omega
  have q2 : ((n : Int) - 1).toNat = n - 1 := by omega
  have q3 : (n : Int) - 1 ≤ (cap : Int) := by omega
  have hend : endN ⟨l.toArray⟩ = decide (l[n - 1] = 10) := by
    unfold endN
    rw [decide_eq_decide]
    show l.getLast? = some 10 ↔ _
    rw [List.getLast?_eq_getElem?, hll, List.getElem?_eq_getElem hlt1]; simp
  have hne : (⟨l.toArray⟩ : ByteArray).data.toList ≠ [] := by show l ≠ []; intro h; rw [h] at hll; exact h0 hll.symm
  by_cases hlast : l[n - 1] = 10
  · have t1 : ((l[n - 1].toNat : Int) != 10) = false := by rw [hlast]; rfl
    have hsrc : BSrc w w.heap.size (some ⟨bb, off, none⟩) (n - 1) cap (l.take (n - 1)) := ⟨by rw [List.length_take]; omega, fun _ => ⟨bb, off, rfl, hbb, by omega, fun j hj => by
      rw [List.length_take] at hj
      rw [hc j (by omega)]; simp⟩⟩
    have hcv := run_conv_src (c2 := cap) hsrc
    rw [take_ext] at hcv
    obtain ⟨T, hT⟩ : ∃ T : ByteArray, (⟨l.toArray⟩ : ByteArray).extract 0 (n - 1) = T := ⟨_, rfl⟩
    rw [hT] at hcv
    have htz : T.size ≤ 10000000 := by rw [← hT, ByteArray.size_extract]; omega
    have hrd : rdoc ⟨l.toArray⟩ = unlL (pcs 10 T) := by unfold rdoc; rw [if_neg hne, if_pos (by rw [hend, hlast]; rfl), hlen, hT]
    have HEN : Hid (∀ L, rdoc ⟨l.toArray⟩ = some L → (enc L).1 = chk L) := fun L h => rdoc_enc h (by omega)
    have HRD := Lib.hid hrd
    have HS := Lib.hid (fun w => split_anyS T 10 w htz)
    have hpl := pcs_len 10 T
    have hpc := pcs_cnt 10 T
    obtain ⟨n1, hn1⟩ : ∃ n1, Lib.countB T (oneB 10) + 1 = n1 := ⟨_, rfl⟩
    have hn1b : n1 ≤ 10000001 := by omega
    have HPZ : Hid (∀ x ∈ pcs 10 T, x.size ≤ 10000000) := fun x hx => Nat.le_trans (pcs_size 10 T x hx) htz
    rw [hn1] at HS hpl
    have HPL := Lib.hid hpl
    have HW1 : Hid (∀ w1, w1 = w.alloc (.cells ((pcs 10 T).map Value.string).toArray 9) → Below w.heap.size w w1 ∧ w.heap.size < w1.heap.size ∧ ∀ j (hj : j < (pcs 10 T).length), w1.cell? ⟨w.heap.size, j, none⟩ = some (.string (pcs 10 T)[j])) := by
      rintro w1 rfl
      refine ⟨below_allocD _ _, by simp, fun j hj => ?_⟩
      rw [cell_of_row _ w.heap.size j _ _ (0, 0) (heap_alloc_new w _)]
      simp [hj]
    clear hT htz hrd hend hne hlen hs hll hsrc hc hbig hpc hn1 hpl
    go_enter Tryz.func40, Tryz.ntmps40
    go_wp2_with fail
    refine (HS.out _).mono ?_
    rintro e w1 ⟨rfl, hw⟩
    obtain ⟨hb1, hg1, hrow⟩ := HW1.out w1 hw
    have HB1 := Lib.hid hb1; have HROW := Lib.hid hrow
    clear hw hb1 hrow HW1 hcv c1 q0 q1 q2 q3 HS t1
    go_wp2_with fail
    have HB0 := Lib.hid (Below.refl w1.heap.size w1)
    go_loopw [5, 6] (fun v i wr => ∃ (k : Nat) (done : List Ln) (sp : Option Addr) (cap : Nat), k ≤ n1 ∧ i = .int .i64 k ∧ Hid (k = done.length) ∧ v = .slice sp k cap ∧ Hid (unlL (pcs 10 T) = (unlL ((pcs 10 T).drop k)).map (wordsOf done ++ ·)) ∧ Hid (wr.ownsRow w1.heap.size 40 1 (.slice sp k cap) k (done.map Ln.val)) ∧ Hid (∀ q ∈ done, LnOwn wr w1.heap.size q) ∧ Hid (Below w1.heap.size w1 wr)) (fun _ i _ => n1 - (intOf i).toNat)
    case atStart => exact ⟨0, [], none, 0, Nat.zero_le _, rfl, rfl, rfl, by show _ = _; simp [wordsOf], World.ownsRow_nil _ _ _ _, (fun q hq => by cases hq), HB0.out⟩
    case round =>
      clear HB0
      obtain ⟨k, done, sp2, cap2, hk, rfl, HK, rfl, HRX, hown, hea, hbe⟩ := hrel
      obtain ⟨wx, hwx⟩ : ∃ wx, wx = wr := ⟨_, rfl⟩
      subst hwx
      have hbs := hbe.out.size
      by_cases hlt : k < n1
      · have hd1 : decide ((k : Int) < (n1 : Int)) = true := by simp; omega
        have p1 : (0 : Int) ≤ (k : Int) := by omega
        have p2 : (k : Int) < (n1 : Int) := by omega
        have hlw : k < (pcs 10 T).length := by rw [HPL.out]; exact hlt
        have c1 := (hbe.out.cell (p := ⟨w.heap.size, k, none⟩) hg1).trans (HROW.out k hlw)
        have hdr : (pcs 10 T).drop k = (pcs 10 T)[k] :: (pcs 10 T).drop (k + 1) := List.drop_eq_getElem_cons hlw
        have hxz := HPZ.out _ (List.getElem_mem hlw)
        obtain ⟨x, hx⟩ : ∃ x, (pcs 10 T)[k] = x := ⟨_, rfl⟩
        rw [hx] at c1 hdr hxz
        have HDR := Lib.hid hdr
        have HSX := Lib.hid (fun w => split_anyS x 32 w hxz)
        have hpl := pcs_len 32 x
        have hpc := pcs_cnt 32 x
        have hpz := pcs_size 32 x
        obtain ⟨n2, hn2⟩ : ∃ n2, Lib.countB x (oneB 32) + 1 = n2 := ⟨_, rfl⟩
        have hn2b : n2 ≤ 10000001 := by omega
        rw [hn2] at HSX hpl
        have HPL2 := Lib.hid hpl
        have HPZ2 : Hid (∀ y ∈ pcs 32 x, y.size ≤ 1099511627776) := fun y hy => Nat.le_trans (hpz y hy) (by omega)
        have HWP : Hid (∀ wp, wp = wx.alloc (.cells ((pcs 32 x).map Value.string).toArray 9) → Below wx.heap.size wx wp ∧ wx.heap.size < wp.heap.size ∧ ∀ j (hj : j < (pcs 32 x).length), wp.cell? ⟨wx.heap.size, j, none⟩ = some (.string (pcs 32 x)[j])) := by
          rintro wp rfl
          refine ⟨below_allocD _ _, by simp, fun j hj => ?_⟩
          rw [cell_of_row _ wx.heap.size j _ _ (0, 0) (heap_alloc_new wx _)]
          simp [hj]
        clear hx hdr hxz hpc hpz hn2 hpl hlw
        go_wp2_with fail
        refine (HSX.out _).mono ?_
        rintro e wp ⟨rfl, hw⟩
        obtain ⟨hbp, hgp, hrow⟩ := HWP.out wp hw
        have HBP := Lib.hid hbp; have HROW2 := Lib.hid hrow
        have HWN := Lib.hid (own_belowD hown.out hbp)
        have HEA : Hid (∀ q ∈ done, LnOwn wp w1.heap.size q) := fun q hq => own_belowD (hea.out q hq) hbp
        have HBE := Lib.hid (hbe.out.trans (hbp.mono hbs))
        clear hw hbp hrow HWP HSX c1 hown hea hbe hbs
        have hwp1 : w1.heap.size ≤ wp.heap.size := HBE.out.size
        go_wp2_with fail
        have HB0 := Lib.hid (Below.refl wp.heap.size wp)
        go_loopw [8, 9] (fun v i wr => ∃ (j : Nat) (dw : List ByteArray) (sp : Option Addr) (cap : Nat), j ≤ n2 ∧ i = .int .i64 j ∧ Hid (j = dw.length) ∧ v = .slice sp j cap ∧ Hid (unwsL (pcs 32 x) = (unwsL ((pcs 32 x).drop j)).map (dw ++ ·)) ∧ Hid (wr.ownsRow wp.heap.size 9 1 (.slice sp j cap) j (dw.map Value.string)) ∧ Hid (Below wp.heap.size wp wr)) (fun _ i _ => n2 - (intOf i).toNat)
        case atStart => exact ⟨0, [], none, 0, Nat.zero_le _, rfl, rfl, rfl, by show _ = _; simp, World.ownsRow_nil _ _ _ _, HB0.out⟩
        case round =>
          clear HB0
          obtain ⟨j, dw, sp3, cap3, hj, rfl, HJ, rfl, HRW, hown, hbe⟩ := hrel
          have hbs := hbe.out.size
          by_cases hlt2 : j < n2
          · have hd2 : decide ((j : Int) < (n2 : Int)) = true := by simp; omega
            have p3 : (0 : Int) ≤ (j : Int) := by omega
            have p4 : (j : Int) < (n2 : Int) := by omega
            have hlw : j < (pcs 32 x).length := by rw [HPL2.out]; exact hlt2
            have c2 := (hbe.out.cell (p := ⟨wx.heap.size, j, none⟩) hgp).trans (HROW2.out j hlw)
            have hdr : (pcs 32 x).drop j = (pcs 32 x)[j] :: (pcs 32 x).drop (j + 1) := List.drop_eq_getElem_cons hlw
            have hc := fun w => RUnwS_any (pcs 32 x)[j] w (HPZ2.out _ (List.getElem_mem hlw))
            obtain ⟨y, hy⟩ : ∃ y, (pcs 32 x)[j] = y := ⟨_, rfl⟩
            rw [hy] at c2 hdr hc
            clear hy hlw
            cases hu : unwS y with
            | none =>
              have HX : Hid (unwsL (pcs 32 x) = none) := by show _ = _; rw [HRW.out, hdr, unwsL_none hu]; rfl
              have HX2 : Hid (decC ⟨l.toArray⟩ = (2, [])) := by
                show _ = _
                rw [HR0.out, HRD.out, HRX.out, HDR.out, unlL_none HX.out]; rfl
              rw [hu] at hc
              have HC := Lib.hid hc
              clear hc hu hdr
              go_wp2_with fail
              refine (HC.out _).mono ?_
              rintro e w6 ⟨rfl, b6⟩
              have B6 := Lib.hid (HBE.out.trans ((hbe.out.trans (b6.mono hbs)).mono hwp1))
              clear b6
              go_wp2_with fail
              go_ret2
              exact decRes_no HX2.out rfl (HB1.out.trans (B6.out.mono HB1.out.size))
            | some z =>
              have HX : Hid (unwsL (pcs 32 x) = (unwsL ((pcs 32 x).drop (j + 1))).map ((dw ++ [z]) ++ ·)) := by
                show _ = _
                rw [HRW.out, hdr, unwsL_some hu, Option.map_map]
                congr 1
                funext u
                simp
              rw [hu] at hc
              have HC := Lib.hid hc
              clear hc hu hdr
              go_wp2_with fail
              refine (HC.out _).mono ?_
              rintro e w6 ⟨rfl, b6⟩
              have B6 := Lib.hid (hbe.out.trans (b6.mono hbs))
              have hz6 := B6.out.size
              have hown6 := Lib.hid (own_belowD hown.out b6)
              clear b6 c2
              go_wp2_with (first
                | (at_builtin; refine wpList_append_str rfl (.tmp 61) (.tmp 63) 40 9 rfl Tryz.underlying40 infoStrS wp.heap.size _ dw j rfl HJ.out (hown6.out.alloc _) w6.heap.size z rfl (by simp) (by omega) (by simp; omega) ?_; intro sp5 cap5 w5 hown5 hg5))
              have hbe5 := (B6.out.alloc hz6 (.cells #[.string z] 9)).grown hg5 (by simp; omega) (own_baseD hown6.out)
              go_roundw
              case rel => exact ⟨j + 1, dw ++ [z], sp5, cap5, by omega, by go_num, by show _ = _; rw [List.length_append, ← HJ.out]; rfl, rfl, HX, hown5, hbe5⟩
              case measure => simp [intOf]; omega
          · obtain rfl : n2 = j := by omega
            have hd2 : decide ((n2 : Int) < (n2 : Int)) = false := by simp
            have HX : Hid (unwsL (pcs 32 x) = some dw) := by
              show _ = _
              rw [HRW.out, List.drop_eq_nil_of_le (by rw [HPL2.out]; exact Nat.le_refl _)]; simp [unwsL]
            have HX2 : Hid (unlL (pcs 10 T) = (unlL ((pcs 10 T).drop (k + 1))).map (wordsOf (done ++ [(⟨sp3, n2, cap3, dw⟩ : Ln)]) ++ ·)) := by
              show _ = _
              rw [HRX.out, HDR.out, unlL_some HX.out, Option.map_map]
              congr 1
              funext u
              simp [wordsOf]
            have HOL : Hid (LnOwn wr w1.heap.size ⟨sp3, n2, cap3, dw⟩) := own_monoD hown.out hwp1
            have hown6 := Lib.hid (own_belowD HWN.out hbe.out)
            have HEA6 : Hid (∀ q ∈ done, LnOwn wr w1.heap.size q) := fun q hq => own_belowD (HEA.out q hq) hbe.out
            have B6 := Lib.hid (HBE.out.trans (hbe.out.mono hwp1))
            have hz6 := B6.out.size
            clear HX hown hbe HRW
            go_wp2_with (first
              | (at_builtin; refine wpList_append_ln rfl (.tmp 65) (.tmp 67) 45 40 rfl Tryz.underlying45 infoLn w1.heap.size _ done k rfl HK.out (hown6.out.alloc _) wr.heap.size (⟨sp3, n2, cap3, dw⟩ : Ln) rfl (by simp [Ln.val]) (by omega) (by simp; omega) ?_; intro sp5 cap5 w5 hown5 hg5))
            have hbe5 := (B6.out.alloc hz6 (.cells #[.slice sp3 n2 cap3] 40)).grown hg5 (by simp; omega) (own_baseD hown6.out)
            have HEA5 : Hid (∀ q ∈ done ++ [(⟨sp3, n2, cap3, dw⟩ : Ln)], LnOwn w5 w1.heap.size q) := by
              intro q hq
              have hq6 : LnOwn wr w1.heap.size q := by
                rcases List.mem_append.1 hq with h | h
                · exact HEA6.out q h
                · rw [List.mem_singleton.1 h]; exact HOL.out
              exact World.ownsRow.kept (World.ownsRow.alloc hq6 _) hg5 (own_apart (w := wr) hq6 hown6.out (by decide))
            go_roundw
            case rel => exact ⟨k + 1, done ++ [(⟨sp3, n2, cap3, dw⟩ : Ln)], sp5, cap5, by omega, by go_num, by show _ = _; rw [List.length_append, ← HK.out]; rfl, rfl, HX2, hown5, HEA5, hbe5⟩
            case measure => simp [intOf]; omega
      · obtain rfl : n1 = k := by omega
        have hd1 : decide ((n1 : Int) < (n1 : Int)) = false := by simp
        have hrd : rdoc ⟨l.toArray⟩ = some (wordsOf done) := by
          rw [HRD.out, HRX.out, List.drop_eq_nil_of_le (by rw [HPL.out]; exact Nat.le_refl _)]; simp [unlL]
        have h1 := hown.out
        have h2 := HK.out
        rw [h2] at h1
        have hE := refEncode_any sp2 done.length cap2 done wx (lines_own h1 hea.out) (own_le h1) (fun q hq => own_le (hea.out q hq))
        rw [← h2] at hE
        have hcode := HEN.out _ hrd
        have HR2 : Hid (decC ⟨l.toArray⟩ = if chk (wordsOf done) = 0 then (0, wordsOf done) else (2, [])) := by show _ = _; rw [HR0.out, hrd]
        have hE2 : Calls Tryz.prog 13 #[.slice sp2 n1 cap2] wx fun e w' => ∃ v, e = .returned (.tuple #[v, .int .i64 (chk (wordsOf done) : Int)]) ∧ Below wx.heap.size wx w' := hE.mono fun e w' ⟨v, he, _, hb⟩ => ⟨v, by rw [he, hcode], hb⟩
        have HE2 := Lib.hid hE2
        obtain ⟨cc, hcc⟩ : ∃ cc, chk (wordsOf done) = cc := ⟨_, rfl⟩
        rw [hcc] at HE2 HR2
        have HBW := Lib.hid (HB1.out.trans (hbe.out.mono HB1.out.size))
        clear hE hE2 hcode hrd h1 h2 hcc
        by_cases hc0 : cc = 0
        · have t2 : ((cc : Int) != 0) = false := by rw [bne_eq_false_iff_eq]; omega
          rw [if_pos hc0] at HR2
          clear hc0
          go_wp2_with fail
          refine HE2.out.mono ?_
          rintro e w9 ⟨v9, rfl, b9⟩
          have B9 := Lib.hid b9
          clear b9
          go_wp2_with fail
          go_ret2
          rw [HR2.out]
          have h1 := own_monoD (own_belowD hown.out B9.out) HB1.out.size
          have h3 := HK.out
          rw [h3] at h1
          refine ⟨sp2, cap2, done, rfl, by rw [← h3]; rfl, h1, fun q hq => own_monoD (own_belowD (hea.out q hq) B9.out) HB1.out.size, HBW.out.trans (B9.out.mono HBW.out.size)⟩
        · have t2 : ((cc : Int) != 0) = true := by rw [bne_iff_ne]; omega
          rw [if_neg hc0] at HR2
          clear hc0
          go_wp2_with fail
          refine HE2.out.mono ?_
          rintro e w9 ⟨v9, rfl, b9⟩
          have B9 := Lib.hid b9
          clear b9
          go_wp2_with fail
          go_ret2
          exact decRes_no HR2.out rfl (HBW.out.trans (B9.out.mono HBW.out.size))
  · have t1 : ((l[n - 1].toNat : Int) != 10) = true := by
      rw [bne_iff_ne]; intro e; apply hlast; apply UInt8.toNat_inj.1; show l[n - 1].toNat = 10; omega
    have HR : Hid (decC ⟨l.toArray⟩ = (2, [])) := by
      show _ = _
      rw [HR0.out]; unfold rdoc
      rw [if_neg hne, if_neg (by rw [hend, decide_eq_false hlast]; simp)]
    clear hend hne hlen hs hll hc hbig
    go_enter Tryz.func40, Tryz.ntmps40
    go_wp2_with fail
    go_ret2
    exact decRes_no HR.out rfl (Below.refl _ _)
end Go.Proofs.YtdjknefbaclleaaGreatDoor
