/-
  The walk of the reference's Lines (conditions: digests of 32 bytes, at most 100000 entries).
-/
import Derived.Test.YtecllfbadciaoaaGreatDoorZip
import Derived.Test.YtecllfbadciaoaaGreatDoorRecG
import Derived.Test.YtecllfbadciaoaaGreatDoorQ23
import Derived.WalkSmall
set_option maxRecDepth 100000
set_option maxHeartbeats 8000000
namespace Go.Proofs.YtecllfbadciaoaaGreatDoor
open Go.RowKit
theorem refLines_any (tag : ByteArray) (sp : Option Addr) (n cap : Nat) (l : List En) (w : World) (hl : EnsIn w w.heap.size sp n cap l) (hn : n ≤ 100000) :
 Calls Tryz.prog 24 #[.string tag, .slice sp n cap] w fun e w' => ∃ sp' cap' ls, e = .returned (.slice sp' n cap') ∧ ls.length = n ∧ wordsOf ls = l.map (lineE tag) ∧ LnsOwn w' w.heap.size (.slice sp' n cap') ls ∧ Below w.heap.size w w' := by
 have HL := zh hl
 clear hl
 go_enter Tryz.func24, Tryz.ntmps24
 go_wp2_with fail
 go_loopw [5, 6] (fun v i wr => ∃ (k : Nat) (done : List Ln) (sp' : Option Addr) (cap' : Nat), k ≤ n ∧ i = .int .i64 k ∧ v = .slice sp' k cap' ∧ Hid (k = done.length) ∧ Hid (wordsOf done = (l.take k).map (lineE tag)) ∧ Hid (LnsOwn wr w.heap.size (.slice sp' k cap') done) ∧ Hid (Below w.heap.size w wr)) (fun _ i _ => n - (intOf i).toNat)
 case atStart => exact ⟨0, [], _, _, Nat.zero_le _, rfl, rfl, rfl, rfl, LnsOwn.nil _ _, Below.refl _ _⟩
 case round =>
  obtain ⟨k, done, sp', cap', hk, rfl, rfl, HKL, HWD, hown, hbe⟩ := hrel
  have hbs := hbe.out.size
  by_cases hlt : k < n
  ·have hd : decide ((k : Int) < (n : Int)) = true := by simp; omega
   obtain ⟨b, off, rfl, hbB, hcap, hr⟩ := HL.out.cells (by omega)
   have hkl : k < l.length := by rw [HL.out.len]; exact hlt
   obtain ⟨x, hx⟩ : ∃ x, l[k]? = some x := ⟨l[k], List.getElem?_eq_getElem hkl⟩
   have hok := HL.out.ok x (List.mem_of_getElem? hx)
   have HOK := zh hok
   have HFM : Hid (∀ W, Calls Tryz.prog 56 #[.agg (x.d.map (Value.int .u8)).toArray] W fun e w' => e = .returned (.string (fmtD x.d)) ∧ Below W.heap.size W w') := fun W => refFormat_any x.d W hok.1 hok.2
   have HT : Hid (∀ y : Ln, y.l = [tag, x.p, fmtD x.d] → wordsOf (done ++ [y]) = (l.take (k + 1)).map (lineE tag)) := by
    intro y hy
    rw [List.take_add_one, hx, List.map_append, ← HWD.out]
    simp [wordsOf, hy, lineE]
   have p1 : (0 : Int) ≤ (k : Int) := by omega
   have p2 : (k : Int) < (n : Int) := by omega
   have HRX := zh (fun W (hb : Below w.heap.size w W) => range_belowS (hr k x hx) hb hbB)
   have q1 : IntKind.i64.wrap (k : Int) = (k : Int) := IntWalk.i64_in _ (by omega)
   clear hr hx hkl hok
   go_wp2_with fail
   refine wp_region_held_drew (S := fun w' => w'.rangeAt b (off + k * 33) (enL x)) (by kernel_rfl) (HRX.out _ hbe.out.drew) (fun hHeld => ?_)
   refine zv 0 rfl ?_
   refine zv 1 rfl ?_
   refine zv 2 rfl ?_
   refine zv 3 rfl ?_
   refine zv 4 rfl ?_
   refine zv 5 rfl ?_
   refine zx 6 rfl (v := ?_) ?_ ?_; rotate_left
   ·intro w' hSw; have h1 := rngE_p hSw; go_simp; try with_reducible rfl
   refine zv 7 rfl ?_
   refine zv 8 rfl ?_
   refine zv 9 rfl ?_
   refine zv 10 rfl ?_
   refine' zk 11 rfl (v := _) (yieldsIf_load_mid (by rfl) _ _ rfl _ _ rfl _ _ ?hS11n19 Tryz.underlying80 rfl (info_d HOK.out)) ?rest11n19
   case hS11n19 =>
    intro w' hSw
    exact (rngE_d hSw)
   try simp only [Act.put, zuA, zuB, zuC, zuD, zuY, zuF]
   refine zr 12 rfl (fun K hK => ?_)
   go_simp
   with_reducible refine (HFM.out _).mono ?_
   rintro e w3 ⟨rfl, hb3⟩
   go_wp2_with fail
   refine hK.out _ _ (HRX.out _ (hbe.out.trans ((((Below.refl _ wr).drew).trans hb3).mono hbs))) fun _ => ?_; clear hK K
   try simp only [Act.put, zuA, zuB, zuC, zuD, zuY, zuF]
   have HB3 := zh (hbe.out.trans ((((Below.refl _ wr).drew).trans hb3).mono hbs))
   have HO3 := zh (hown.out.below (((Below.refl _ wr).drew).trans hb3))
   clear hb3
   refine zr 13 rfl (fun K hK => ?_)
   rw [if_pos (by rfl)]
   refine wp_slice_eqS 27 3 [(0, .tmp 14), (1, .tmp 19), (2, .tmp 25)] rfl [(0, .string tag), (1, .string x.p), (2, .string (fmtD x.d))] rfl _ _ (slice3 _ tag x.p (fmtD x.d)) ?_
   generalize hw4 : World.alloc w3 _ = w4
   have hq4 : LnOwnL w4 w.heap.size ⟨some ⟨w3.heap.size, 0, none⟩, 3, 3, [tag, x.p, fmtD x.d]⟩ := by rw [← hw4]; exact lnOwn_new3 w3 _ (by have := HB3.out.size; omega) _ _ _
   have hb4 : Below w3.heap.size w3 w4 := by rw [← hw4]; exact (Below.refl _ _).alloc (Nat.le_refl _) _
   have HQ4 := zh hq4
   have HB4 := zh (HB3.out.trans (hb4.mono HB3.out.size))
   have HO4 := zh (HO3.out.below hb4)
   clear hw4 hq4 hb4
   refine hK.out _ _ (HRX.out _ HB4.out) fun _ => ?_; clear hK K
   try simp only [Act.put, zuA, zuB, zuC, zuD, zuY, zuF]
   refine zr 14 rfl (fun K hK => ?_)
   rw [if_pos (by rfl)]
   refine wp_slice_eqS 59 1 [(0, .tmp 26)] rfl [(0, .slice (some ⟨w3.heap.size, 0, none⟩) 3 3)] rfl _ _ (slice1L _ _) ?_
   generalize hw5 : World.alloc w4 _ = w5
   have hc5 : w5.cell? ⟨w4.heap.size, 0, none⟩ = some (Ln.val ⟨some ⟨w3.heap.size, 0, none⟩, 3, 3, [tag, x.p, fmtD x.d]⟩) := by rw [← hw5, cell_of_row _ w4.heap.size 0 _ _ _ (heap_alloc_new w4 _)]; rfl
   have hb5 : Below w4.heap.size w4 w5 := by rw [← hw5]; exact (Below.refl _ _).alloc (Nat.le_refl _) _
   have HC5 := zh hc5
   have HB5 := zh (HB4.out.trans (hb5.mono HB4.out.size))
   have HO5 := zh (HO4.out.below hb5)
   have HQ5 : Hid (LnOwnL w5 w.heap.size ⟨some ⟨w3.heap.size, 0, none⟩, 3, 3, [tag, x.p, fmtD x.d]⟩) := own_belowL HQ4.out hb5
   have hs5 := HB5.out.size
   clear hw5 hc5 hb5
   refine hK.out _ _ (HRX.out _ HB5.out) fun _ => ?_; clear hK K
   try simp only [Act.put, zuA, zuB, zuC, zuD, zuY, zuF]
   refine zr 15 rfl (fun K hK => ?_)
   rw [if_pos (by rfl)]
   refine wp_append_lns (.tmp 13) (.tmp 27) rfl w.heap.size _ done k HKL.out rfl HO5.out w4.heap.size ⟨some ⟨w3.heap.size, 0, none⟩, 3, 3, [tag, x.p, fmtD x.d]⟩ rfl HC5.out HQ5.out (by omega) (by omega) ?_
   intro sp6 cap6 w6 HO6 HB6 HG6
   have HB7 := zh (HB5.out.trans HB6.out)
   refine hK.out _ _ (HRX.out _ HB7.out) fun _ => ?_; clear hK K
   try simp only [Act.put, zuA, zuB, zuC, zuD, zuY, zuF]
   refine zv 16 rfl ?_
   refine zd ?_ _
   clear hHeld
   go_wp2_with fail
   go_roundw
   case rel => exact ⟨k + 1, done ++ [⟨some ⟨w3.heap.size, 0, none⟩, 3, 3, [tag, x.p, fmtD x.d]⟩], sp6, cap6, by omega, by go_num, rfl, by show _ = _; rw [List.length_append, ← HKL.out]; rfl, HT.out _ rfl, HO6, HB7⟩
   case measure => simp [intOf]; omega
  ·obtain rfl : k = n := by omega
   have hd : decide ((k : Int) < (k : Int)) = false := by simp
   have HTT : Hid ((l.take k).map (lineE tag) = l.map (lineE tag)) := by show _ = _; rw [List.take_of_length_le (by rw [HL.out.len]; exact Nat.le_refl _)]
   go_wp2_with fail
   go_ret
   exact ⟨sp', cap', done, rfl, HKL.out.symm, by rw [← HTT.out]; exact HWD.out, hown.out, hbe.out⟩
theorem cat_ret (P S : ByteArray) : P ++ S = ⟨(P.data.toList ++ S.data.toList).toArray⟩ := by
 apply ByteArray.ext; simp
def dz (u : Nat) : List UInt8 := if u = 0 then [] else Lib.decDigits u
theorem dzN_step (u : Nat) (h : 0 < u) : dz u = dz (u / 10) ++ [UInt8.ofNat (48 + u % 10)] := by
 unfold dz
 rw [if_neg (by omega)]
 by_cases h10 : u < 10
 ·rw [Lib.decDigits_one h10, if_pos (by omega), show u % 10 = u by omega]; rfl
 ·rw [dec_step u h10, if_neg (by omega)]
theorem refNumber_any (n : Int) (h0 : -9223372036854775808 ≤ n) (h1 : n ≤ 9223372036854775807) (w : World) :
 Calls Tryz.prog 23 #[.int .i64 n] w fun e w' => e = .returned (.string ⟨(Lib.itoa n).toArray⟩) ∧ Below w.heap.size w w' := by
 by_cases hz : n = 0
 ·subst hz
  have HI : Hid ((Lib.itoa 0) = [48]) := by show _ = _; rw [show (0 : Int) = ((0 : Nat) : Int) from rfl, Lib.itoa_nonneg, Lib.decDigits_one (by omega)]; rfl
  go_enter Tryz.func23, Tryz.ntmps23
  go_wp2_with fail
  go_ret
  exact ⟨by rw [HI.out]; rfl, Below.refl _ _⟩
 ·have e0 : (n == 0) = false := by simpa using hz
  have hcs : ∃ u : Nat, u < 18446744073709551616 ∧ 0 < u ∧ ((decide (n < 0) = true ∧ IntKind.u64.wrap (-IntKind.u64.wrap n) = (u : Int) ∧ Lib.itoa n = 45 :: dz u) ∨ (decide (n < 0) = false ∧ n = (u : Int) ∧ Lib.itoa n = dz u)) := by
   by_cases hneg : n < 0
   ·refine ⟨n.natAbs, by omega, by omega, .inl ⟨by simpa using hneg, ?_, ?_⟩⟩
    ·show (-(n % 18446744073709551616)) % 18446744073709551616 = _; omega
    ·unfold Lib.itoa dz; rw [if_pos hneg, if_neg (by omega)]
   ·refine ⟨n.toNat, by omega, by omega, .inr ⟨by simp; omega, by omega, ?_⟩⟩
    unfold Lib.itoa dz; rw [if_neg hneg, if_neg (by omega)]
  obtain ⟨u0, hu, hu0, hcs⟩ := hcs
  clear h0 h1 hz
  have HST : Hid (∀ (wr : World) (c : UInt8), (convert 22 9 (.slice (some ⟨wr.heap.size, 0, none⟩) 1 1)).run Tryz.prog (wr.alloc (.cells #[.int .u8 (c.toNat : Int)] 5)) = .ok (.string ⟨#[c]⟩) (wr.alloc (.cells #[.int .u8 (c.toNat : Int)] 5))) := fun wr c => by
   refine run_convert_bytes_back _ 22 9 5 _ 1 [c] Tryz.underlying22 Tryz.underlying5 Tryz.underlying9 (fun j hj => ?_)
   have hj0 : j = 0 := by simp at hj; omega
   subst hj0
   rw [Addr.add_mid, cell_of_row _ wr.heap.size (0 + 0) _ _ (0, 0) (heap_alloc_new wr _)]; rfl
  rcases hcs with ⟨hd, hq, hi⟩ | ⟨hd, hq, hi⟩
  focus
   have HI := zh hi
   clear hi
   go_enter Tryz.func23, Tryz.ntmps23
   go_wp2_with fail
  rotate_left
  focus
   have HI := zh hi
   have HQ := zh hq
   clear hi
   subst hq
   go_enter Tryz.func23, Tryz.ntmps23
   go_wp2_with fail
  all_goals
   go_loopw [4, 5] (fun a b wr => ∃ (u : Nat) (S : ByteArray), a = .int .u64 u ∧ b = .string S ∧ S.size ≤ 20 ∧ u < 18446744073709551616 ∧ Hid (u < 10 ^ (20 - S.size)) ∧ Hid (dz u ++ S.data.toList = dz u0) ∧ Hid (Below w.heap.size w wr)) (fun a _ _ => (intOf a).toNat)
   case atStart => exact ⟨u0, ⟨#[]⟩, rfl, rfl, by show 0 ≤ 20; omega, hu, by show u0 < 10 ^ 20; omega, by show _ = _; simp, Below.refl _ _⟩
   case round =>
    obtain ⟨u, S, rfl, rfl, hS, hu2, HP, HD, hbe⟩ := hrel
    have hbs := hbe.out.size
    by_cases hlt : 0 < u
    ·have hd2 : decide ((u : Int) > 0) = true := by simp; omega
     obtain ⟨c, hc⟩ : ∃ c : UInt8, c = UInt8.ofNat (48 + u % 10) := ⟨_, rfl⟩
     have hcn : c.toNat = 48 + u % 10 := by rw [hc, ofNat_toNat8 _ (by omega)]
     have q1 : 48 + (u : Int) % 10 = (c.toNat : Int) := by omega
     have q1' : 48 + Int.tmod (u : Int) 10 = (c.toNat : Int) := by rw [Int.tmod_eq_emod_of_nonneg (by omega)]; omega
     obtain ⟨v, hv⟩ : ∃ v, u / 10 = v := ⟨_, rfl⟩
     have q2 : (u : Int) / 10 = (v : Int) := by omega
     have q2' : Int.tdiv (u : Int) 10 = (v : Int) := by rw [Int.tdiv_eq_ediv_of_nonneg (by omega)]; omega
     have q3 : (c.toNat : Int) % 256 = (c.toNat : Int) := by omega
     have hrun := HST.out wr c
     have hS2 : S.size < 20 := by
      rcases Nat.lt_or_ge S.size 20 with h | h
      ·exact h
      ·have := HP.out
       rw [show 20 - S.size = 0 by omega] at this
       omega
     have HD2 : Hid (dz v ++ ((⟨#[c]⟩ : ByteArray) ++ S).data.toList = dz u0) := by
      show _ = _
      rw [← HD.out, dzN_step u hlt, ← hc, hv, List.append_assoc]
      congr 1
     have HP2 : Hid (v < 10 ^ (20 - (S.size + 1))) := by
      show _ < _
      have h1 := HP.out
      rw [show 20 - S.size = (20 - (S.size + 1)) + 1 by omega, Nat.pow_succ] at h1
      omega
     have hcat : (1 : Int) + (S.size : Int) ≤ 9223372036854775807 := by omega
     have hv2 : v < u := by omega
     clear hc hcn hv
     go_wp2_with fail
     go_roundw
     case rel =>
      have hsz : ((⟨#[c]⟩ : ByteArray) ++ S).size = S.size + 1 := by rw [ByteArray.size_append]; show 1 + S.size = _; omega
      refine ⟨v, (⟨#[c]⟩ : ByteArray) ++ S, rfl, rfl, by rw [hsz]; omega, by omega, ?_, HD2, hbe.out.alloc hbs _⟩
      rw [hsz]; exact HP2
     case measure => simp [intOf]; omega
    ·obtain rfl : u = 0 := by omega
     have hd2 : decide (((0 : Nat) : Int) > 0) = false := by decide
     have HF : Hid (S.data.toList = dz u0) := HD.out
     have hcat : (1 : Int) + (S.size : Int) ≤ 9223372036854775807 := by omega
     clear HST
     go_wp2_with fail
     go_ret
     refine ⟨?_, hbe.out⟩
     rw [HI.out, ← HF.out]
     show Ending.returned (.string (_ ++ S)) = _
     rw [cat_ret]; rfl
theorem rencodeR_any (x : Rc) (w : World) (hx : RcIn x w) :
 Calls Tryz.prog 6 #[.agg x.L.toArray] w (EncAns x w) := by
 have HX := zh (RcBox.new hx); have HX0 := zh hx
 have HCB : Hid (x.cn ≤ 1000) := hx.b.2.2.2.1
 have HVB : Hid (x.vn ≤ 1000) := hx.b.2.2.2.2.1
 have HMB : Hid (x.mn ≤ 1000) := hx.b.2.2.2.2.2.1
 have HPB : Hid (x.pn ≤ 1000) := hx.b.2.2.2.2.2.2
 have HTB := zh hx.t
 clear hx
 go_enter Tryz.func6, Tryz.ntmps6
 go_upto_region 1 with fail
 generalize hw0 : World.alloc w _ = w0
 have HB0 : Hid (RcBox x w w0) := by rw [← hw0]; exact HX.out
 clear hw0 HX
 go_wp2_with (refine wpList_load_row rfl 31 _ rfl w.heap.size rfl 31 _ (0, 0) _ HB0.out.r Tryz.underlying31 rfl (infoRcA x) ?_)
 refine (rvalidR_any x w0 HB0.out.i).mono ?_
 rintro e w1 ⟨rfl, hb⟩
 have HB1 : Hid (RcBox x w w1) := HB0.out.below hb
 clear hb HB0
 cases hrc : rcB x
 ·have HE := zh (encR_no hrc)
  go_wp2_with fail
  go_ret2
  refine ⟨.slice none 0 0, by rw [HE.out]; rfl, ?_, HB1.out.b⟩
  rw [HE.out]; exact World.ownsRow_nil _ _ _ _
 have HE := zh (encR_yes hrc)
 clear hrc
 have HCN : Hid (∀ w', Below w1.heap.size w1 w' → Calls Tryz.prog 23 #[.int .i64 x.t] w' fun e w'' => e = .returned (.string (numW x.t)) ∧ Below w'.heap.size w' w'') := fun w' _ =>
  refNumber_any x.t HTB.out.1 HTB.out.2 w'
 obtain ⟨B, hBe⟩ : ∃ B, B = w1.heap.size := ⟨_, rfl⟩
 have HSw1 : Hid (Blks B w1 w1 []) := Blks.start (Below.refl _ _) (Nat.le_of_eq hBe)
 rw [← hBe] at HCN
 have HLT : Hid (w.heap.size < B) := by show _ < _; rw [hBe]; exact HB1.out.lt
 have HBX : Hid (∀ w', Below B w1 w' → RcBox x w w') := fun w' hb => HB1.out.belowB HX0.out hb HLT.out
 have HBe := zh hBe
 clear hBe
 go_upto_region 3 with fail
 go_cut [4] (fun s4 wx => ∃ g ls, s4 = .slice (some ⟨g, 0, none⟩) 1 1 ∧ LnsOwn wx B (.slice (some ⟨g, 0, none⟩) 1 1) ls ∧ ls.length = 1 ∧ wordsOf ls = [[recW, x.run, x.scp, x.stp, numW x.t]] ∧ Below B w1 wx)
 case first =>
  as_aux_lemma =>
   refine wp_region_held_drew (S := fun w' => Below B w1 w') (by kernel_rfl) HSw1.out.b.drew (fun hHeld => ?_)
   refine zv 0 rfl ?_
   refine zx 1 rfl (v := ?_) ?_ ?_; rotate_left
   ·intro w' hSw; have k1 := (HBX.out w' hSw).c0; go_simp; try with_reducible rfl
   refine zv 2 rfl ?_
   refine zx 3 rfl (v := ?_) ?_ ?_; rotate_left
   ·intro w' hSw; have k1 := (HBX.out w' hSw).c1; go_simp; try with_reducible rfl
   refine zv 4 rfl ?_
   refine zx 5 rfl (v := ?_) ?_ ?_; rotate_left
   ·intro w' hSw; have k1 := (HBX.out w' hSw).c2; go_simp; try with_reducible rfl
   refine zv 6 rfl ?_
   refine zx 7 rfl (v := ?_) ?_ ?_; rotate_left
   ·intro w' hSw; have k1 := (HBX.out w' hSw).c3; go_simp; try with_reducible rfl
   refine zr 8 rfl (fun K hK => ?_)
   go_simp
   with_reducible refine (HCN.out _ (HSw1.out.drew).b).mono ?_
   rintro e v1 ⟨rfl, hb⟩
   have HSv1 := zh (HSw1.out.call ((Below.refl _ _).drew.trans hb))
   clear hb
   go_wp2_with fail
   refine hK.out _ _ HSv1.out.b fun _ => ?_; clear hK K
   refine zr 9 rfl (fun K hK => ?_)
   first | (rw [if_pos (by rfl)]; refine wp_slice_eqR 27 5 [(0, .const (.string ⟨#[114, 101, 99, 111, 114, 100]⟩)), (1, .tmp 10), (2, .tmp 12), (3, .tmp 14), (4, .tmp 17)] rfl [(0, .string recW), (1, .string x.run), (2, .string x.scp), (3, .string x.stp), (4, .string (numW x.t))] rfl _ _ (slice5R _ _ _ _ _) ?_) | skip
   obtain ⟨g5, v2, hg, hw, HSv2, HEv2⟩ := HSv1.out.allocd (.cells ([recW, x.run, x.scp, x.stp, numW x.t].map Value.string).toArray 9 (0, 0))
   go_simp
   try rw [hg]
   generalize hq : World.alloc v1 _ = q
   obtain rfl : v2 = q := hw.symm.trans hq
   clear hg hw hq
   refine hK.out _ _ HSv2.out.b fun _ => ?_; clear hK K
   refine zr 10 rfl (fun K hK => ?_)
   first | (rw [if_pos (by rfl)]; refine wp_slice_eqR 59 1 [(0, .tmp 18)] rfl [(0, .slice (some ⟨g5, 0, none⟩) 5 5)] rfl _ _ (sliceE1 _ _ _ _) ?_) | skip
   obtain ⟨g0, v3, hg, hw, HSv3, HEv3⟩ := HSv2.out.allocd (.cells #[.slice (some ⟨g5, 0, none⟩) 5 5] 27 (0, 0))
   go_simp
   try rw [hg]
   generalize hq : World.alloc v2 _ = q
   obtain rfl : v3 = q := hw.symm.trans hq
   clear hg hw hq
   refine hK.out _ _ HSv3.out.b fun _ => ?_; clear hK K
   refine zv 11 rfl ?_
   refine zd ?_ _
   go_wp2_with fail
   go_meet
   exact ⟨g0, [⟨some ⟨g5, 0, none⟩, 5, 5, [recW, x.run, x.scp, x.stp, numW x.t]⟩], rfl, lnsOwn_row (HSv3.out.at 0 rfl) (HSv3.out.lt 0 rfl).1 rfl (by decide) (fun q hq => by rw [List.mem_singleton.1 hq]; exact lnOwn_row (HSv3.out.at 1 rfl) (HSv3.out.lt 1 rfl).1 rfl (by decide)), rfl, rfl, HSv3.out.b⟩
 case rest =>
 obtain ⟨g, ls1, rfl, hl1, hn1, hw1, hbb⟩ := hcut
 have hK1 := ‹∀ (a : Act) (w : World), Code.wp _ _ _ a w → _›
 refine hK1 _ _ ?_
 clear hK1
 obtain ⟨w2, hw2⟩ : ∃ w2, w2 = wc := ⟨_, rfl⟩
 subst hw2
 have HB2 : Hid (RcBox x w w2) := HBX.out w2 hbb
 have HK2 : Hid (B ≤ w2.heap.size) := by show _ ≤ _; have := hbb.size; have := HBe.out; omega
 have HL1 := zh hl1; have HN1 := zh hn1; have HW1 := zh hw1
 clear HSw1 HCN HBX hl1 hn1 hw1 hbb HB1 HBe
 have hb3 : Below w2.heap.size w2 (w2.alloc (.cells #[.string ⟨#[99, 111, 109, 109, 97, 110, 100]⟩] 9)) := (Below.refl _ _).alloc (Nat.le_refl _) _
 have c4 := (HB2.out.below hb3).c4
 have HC3 := zh (HB2.out.below hb3).i.c
 have HB3 := zh hb3
 clear hb3
 go_upto_region 5 with (first
  | (refine wpList_plain rfl fun _ hK => wp_append_wdsR _ _ rfl B w2.heap.size [cmdW] 1 rfl (by decide) rfl (heap_alloc_new w2 _) HK2.out (Nat.le_trans HK2.out HB3.out.size) _ x.c1 x.cn x.cc x.c rfl HC3.out HCB.out (fun sp1 cap1 w4 HO4 HG4 => hK _ _ ?_); have hb24 : Below w2.heap.size w2 w4 := HB3.out.grown HG4.out (by have := HB3.out.size; omega) (fun k e => by injection e with e; omega); have HB24 := zh hb24; clear hb24 HG4; have hb45 : Below w4.heap.size w4 (w4.alloc (.cells #[.slice sp1 (1 + x.cn) cap1] 27)) := (Below.refl _ _).alloc (Nat.le_refl _) _; have HB45 := zh hb45; clear hb45 c4)
  | (refine wpList_plain rfl fun _ hK => wp_append_lns _ _ rfl B _ ls1 1 HN1.out.symm rfl ((HL1.out.below HB24.out).below HB45.out) w4.heap.size ⟨sp1, 1 + x.cn, cap1, [cmdW] ++ x.c⟩ rfl (heap_cellR (L := [.slice sp1 (1 + x.cn) cap1]) (heap_alloc_new w4 _) rfl) (HO4.out.below HB45.out) (by decide) (Nat.le_trans HK2.out (Nat.le_trans HB24.out.size HB45.out.size)) (fun sp2 cap2 w6 HL6 HBB6 HGR6 => hK _ _ ?_)))
 have HB6 : Hid (RcBox x w w6) := ((HB2.out.below HB24.out).below HB45.out).belowB HX0.out HBB6.out HLT.out
 have HK6 : Hid (B ≤ w6.heap.size) := Nat.le_trans (Nat.le_trans HK2.out (Nat.le_trans HB24.out.size HB45.out.size)) HBB6.out.size
 have HN6' : Hid ((ls1 ++ [(⟨sp1, 1 + x.cn, cap1, [cmdW] ++ x.c⟩ : Ln)]).length = 2) := by show _ = _; rw [List.length_append, HN1.out]; rfl
 have HW6' : Hid (wordsOf (ls1 ++ [(⟨sp1, 1 + x.cn, cap1, [cmdW] ++ x.c⟩ : Ln)]) = headR x) := by show _ = _; rw [wordsOf_appR, HW1.out]; rfl
 clear HBB6 HGR6 HO4 HB24 HB45 HB2 HB3 HC3 HK2 HL1 HN1 HW1
 generalize (ls1 ++ [(⟨sp1, 1 + x.cn, cap1, [cmdW] ++ x.c⟩ : Ln)]) = ls2 at *
 go_wp2_with fail
 go_loopw [4, 5] (fun v i wr => ∃ (k : Nat) (sp : Option Addr) (cap : Nat) (ls : List Ln), k ≤ x.vn ∧ v = .slice sp (2 + k) cap ∧ i = .int .i64 k ∧ Hid (LnsOwn wr B (.slice sp (2 + k) cap) ls ∧ ls.length = 2 + k ∧ wordsOf ls = headR x ++ envR (x.v.take k)) ∧ Hid (RcBox x w wr) ∧ Hid (B ≤ wr.heap.size)) (fun _ i _ => x.vn - (intOf i).toNat)
 case atStart => exact ⟨0, sp2, cap2, ls2, Nat.zero_le _, rfl, rfl, ⟨HL6.out, HN6'.out, by rw [HW6'.out]; simp [envR]⟩, HB6.out, HK6.out⟩
 case round =>
  clear HL6 HN6' HW6' HB6 HK6
  obtain ⟨k, sp0, cap0, ls0, hk, rfl, rfl, HLS, HB, HK⟩ := hrel
  have hvb : x.vn ≤ 1000 := HVB.out
  have c5 := HB.out.c5
  by_cases hlt : k < x.vn
  ·have hd : decide ((k : Int) < (x.vn : Int)) = true := by simp; omega
   obtain ⟨b, off, hv1, hbB, hcap, hr⟩ := HX0.out.v.cells (by omega)
   have hkl : k < x.v.length := by rw [HX0.out.v.len]; exact hlt
   obtain ⟨y, hy⟩ : ∃ y, x.v[k]? = some y := ⟨x.v[k], List.getElem?_eq_getElem hkl⟩
   have p1 : (0 : Int) ≤ (k : Int) := by omega
   have p2 : (k : Int) < (x.vn : Int) := by omega
   have HV1 := zh hv1
   have HBX : Hid (∀ w', Below B wr w' → RcBox x w w') := fun w' hb => HB.out.belowB HX0.out hb HLT.out
   have HPC : Hid (∀ w', Below B wr w' → w'.cell? ⟨b, off + k * 2, none⟩ = some (.string y.n) ∧ w'.cell? ⟨b, off + k * 2 + 1, none⟩ = some (.string y.v)) := fun w' hb => by
    have hb' := (HBX.out w' hb).b
    exact ⟨(hb'.cell (p := ⟨b, off + k * 2, none⟩) hbB).trans (hr k y hy 0 _ rfl), (hb'.cell (p := ⟨b, off + k * 2 + 1, none⟩) hbB).trans (hr k y hy 1 _ rfl)⟩
   have HOwr := zh HLS.out.1
   have HLN := zh HLS.out.2.1
   have HWD : Hid (∀ sp : Option Addr, wordsOf (ls0 ++ [(⟨sp, 3, 3, [envW, y.n, y.v]⟩ : Ln)]) = headR x ++ envR (x.v.take (k + 1))) := fun sp => by
    rw [wordsOf_appR, HLS.out.2.2, envR_snoc hy, List.append_assoc]; simp [wordsOf]
   have HSwr : Hid (Blks B wr wr []) := Blks.start (Below.refl _ _) HK.out
   clear hkl hr hy hv1 hbB hcap HLS HB HK
   go_wp2_with fail
   clear c5
   refine wp_region_held_drew (S := fun w' => Below B wr w') (by kernel_rfl) HSwr.out.b.drew (fun hHeld => ?_)
   refine zv 0 rfl ?_
   refine zv 1 rfl ?_
   refine zx 2 rfl (v := ?_) ?_ ?_; rotate_left
   ·intro w' hSw; have k1 := (HBX.out w' hSw).c5; rw [HV1.out] at k1; go_simp; try with_reducible rfl
   refine zv 3 rfl ?_
   refine zv 4 rfl ?_
   refine zv 5 rfl ?_
   refine zx 6 rfl (v := ?_) ?_ ?_; rotate_left
   ·intro w' hSw; have k2 := (HPC.out w' hSw).1; go_simp; try with_reducible rfl
   refine zv 7 rfl ?_
   refine zx 8 rfl (v := ?_) ?_ ?_; rotate_left
   ·intro w' hSw; have k1 := (HBX.out w' hSw).c5; rw [HV1.out] at k1; go_simp; try with_reducible rfl
   refine zv 9 rfl ?_
   refine zv 10 rfl ?_
   refine zv 11 rfl ?_
   refine zx 12 rfl (v := ?_) ?_ ?_; rotate_left
   ·intro w' hSw; have k2 := (HPC.out w' hSw).2; go_simp; try with_reducible rfl
   refine zr 13 rfl (fun K hK => ?_)
   first | (rw [if_pos (by rfl)]; refine wp_slice_eqR 27 3 [(0, .const (.string ⟨#[101, 110, 118]⟩)), (1, .tmp 40), (2, .tmp 46)] rfl [(0, .string envW), (1, .string y.n), (2, .string y.v)] rfl _ _ (sliceE3 _ _ _) ?_) | skip
   obtain ⟨g3, v1, hg, hw, HSv1, HEv1⟩ := HSwr.out.allocdD (.cells ([envW, y.n, y.v].map Value.string).toArray 9 (0, 0))
   go_simp
   try rw [hg]
   generalize hq : World.drew (World.alloc wr _) = q
   obtain rfl : v1 = q := hw.symm.trans hq
   clear hg hw hq
   have HOv1 := zh (HOwr.out.below HEv1.out)
   have HYv1 : Hid (LnOwnL v1 B ⟨some ⟨g3, 0, none⟩, 3, 3, [envW, y.n, y.v]⟩) := lnOwn_row (HSv1.out.at 0 rfl) (HSv1.out.lt 0 rfl).1 rfl (by decide)
   refine hK.out _ _ HSv1.out.b fun _ => ?_; clear hK K
   refine zr 14 rfl (fun K hK => ?_)
   first | (rw [if_pos (by rfl)]; refine wp_slice_eqR 59 1 [(0, .tmp 47)] rfl [(0, .slice (some ⟨g3, 0, none⟩) 3 3)] rfl _ _ (sliceE1 _ _ _ _) ?_) | skip
   obtain ⟨g4, v2, hg, hw, HSv2, HEv2⟩ := HSv1.out.allocd (.cells #[.slice (some ⟨g3, 0, none⟩) 3 3] 27 (0, 0))
   go_simp
   try rw [hg]
   generalize hq : World.alloc v1 _ = q
   obtain rfl : v2 = q := hw.symm.trans hq
   clear hg hw hq
   have HOv2 := zh (HOv1.out.below HEv2.out)
   have HYv2 := zh (HYv1.out.below HEv2.out)
   refine hK.out _ _ HSv2.out.b fun _ => ?_; clear hK K
   refine zr 15 rfl (fun K hK => ?_)
   rw [if_pos (by rfl)]
   refine wp_append_lns _ _ rfl B _ ls0 (2 + k) HLN.out.symm rfl HOv2.out g4 ⟨some ⟨g3, 0, none⟩, 3, 3, [envW, y.n, y.v]⟩ rfl (heap_cellR (L := [.slice (some ⟨g3, 0, none⟩) 3 3]) (HSv2.out.at 0 rfl) rfl) HYv2.out (by omega) HSv2.out.k ?_
   intro sp1 cap1 v3 HLv3 HBB HGR
   have HSv3 : Hid (Blks B wr v3 []) := Blks.start (HSv2.out.b.trans HBB.out) (Nat.le_trans HSv2.out.k HBB.out.size)
   clear HBB HGR
   refine hK.out _ _ HSv3.out.b fun _ => ?_; clear hK K
   refine zv 16 rfl ?_
   refine zd ?_ _
   go_wp2_with fail
   go_roundw
   case rel => exact ⟨k + 1, sp1, cap1, _, by omega, rfl, by go_num, ⟨HLv3.out, (by rw [List.length_append, HLN.out]; rfl), HWD.out _⟩, HBX.out v3 HSv3.out.b, HSv3.out.k⟩
   case measure => simp [intOf]; omega
  ·obtain rfl : k = x.vn := by omega
   have hd : decide ((x.vn : Int) < (x.vn : Int)) = false := by simp
   have HLwr := zh HLS.out.1
   have HLNw := zh HLS.out.2.1
   have HWw : Hid (wordsOf ls0 = headR x ++ envR x.v) := by
    show _ = _
    rw [HLS.out.2.2, List.take_of_length_le (by rw [HB.out.i.v.len]; exact Nat.le_refl _)]
   have HNL6 : Hid (ls0.length ≤ 2000) := by show _ ≤ _; rw [HLNw.out]; have := HVB.out; omega
   have HN6 : Hid (x.mn ≤ 100000) := by show _ ≤ _; have := HMB.out; omega
   have HN7 : Hid (x.pn ≤ 100000) := by show _ ≤ _; have := HPB.out; omega
   have HBwr := HB; have HKwr := HK
   clear HLS HB HK
   have c6 := HBwr.out.c6
   go_wp2_with fail
   refine (refLines_any _ x.m1 x.mn x.mc x.m wr HBwr.out.i.m HN6.out).mono ?_
   rintro e w3 ⟨sq6, cq6, lq6, rfl, hq6, hw6, ho6, hb⟩
   have HBw3 : Hid (RcBox x w w3) := HBwr.out.below hb
   have HLw3 := zh (HLwr.out.below hb)
   have HO6 := zh (ho6.lower (show B ≤ wr.heap.size from HKwr.out))
   have HKw3 : Hid (B ≤ w3.heap.size) := Nat.le_trans HKwr.out hb.size
   have HQ6 := zh hq6; have HW6 := zh hw6
   clear hb ho6 hq6 hw6 c6 HBwr HLwr HKwr
   go_wp2_with (refine wpList_plain rfl fun _ hK => wp_append_lnsR _ _ rfl B _ ls0 rfl HLw3.out sq6 x.mn cq6 lq6 HQ6.out rfl HO6.out (by have := HNL6.out; omega) (by have := HN6.out; omega) HKw3.out (fun sp6' cap6' w4 HLw4 HBB6 => hK _ _ ?_); have HBw4 : Hid (RcBox x w w4) := HBw3.out.belowB HX0.out HBB6.out HLT.out; have c7 := HBw4.out.c7)
   have HKw4 : Hid (B ≤ w4.heap.size) := Nat.le_trans HKw3.out HBB6.out.size
   clear HBB6 HBw3 HLw3 HKw3 HO6
   have HNL7 : Hid ((ls0 ++ lq6).length ≤ 4000) := by show _ ≤ _; rw [List.length_append, HQ6.out]; have := HNL6.out; have := HMB.out; omega
   refine (refLines_any _ x.p1 x.pn x.pc x.p w4 HBw4.out.i.p HN7.out).mono ?_
   rintro e w5 ⟨sq7, cq7, lq7, rfl, hq7, hw7, ho7, hb⟩
   have HBw5 : Hid (RcBox x w w5) := HBw4.out.below hb
   have HLw5 := zh (HLw4.out.below hb)
   have HO7 := zh (ho7.lower (show B ≤ w4.heap.size from HKw4.out))
   have HKw5 : Hid (B ≤ w5.heap.size) := Nat.le_trans HKw4.out hb.size
   have HQ7 := zh hq7; have HW7 := zh hw7
   clear hb ho7 hq7 hw7 c7 HBw4 HLw4 HKw4
   go_wp2_with (refine wpList_plain rfl fun _ hK => wp_append_lnsR _ _ rfl B _ (ls0 ++ lq6) rfl HLw5.out sq7 x.pn cq7 lq7 HQ7.out rfl HO7.out (by have := HNL7.out; omega) (by have := HN7.out; omega) HKw5.out (fun sp7' cap7' w6 HLw6 HBB7 => hK _ _ ?_); have HBw6 : Hid (RcBox x w w6) := HBw5.out.belowB HX0.out HBB7.out HLT.out)
   have HKw6 : Hid (B ≤ w6.heap.size) := Nat.le_trans HKw5.out HBB7.out.size
   clear HBB7 HBw5 HLw5 HKw5 HO7
   have HWE : Hid (wordsOf ((ls0 ++ lq6) ++ lq7) = linesR x) := by
    show _ = _
    rw [wordsOf_appR, wordsOf_appR, HWw.out, HW6.out, HW7.out]; rfl
   have hll : ((ls0 ++ lq6) ++ lq7).length = (ls0 ++ lq6).length + x.pn := by rw [List.length_append, HQ7.out]
   go_wp2_with fail
   have HLI : Hid (LinesIn w6 w6.heap.size sp7' (ls0.length + lq6.length + x.pn) ((ls0 ++ lq6) ++ lq7)) := by show LinesIn _ _ _ _ _; rw [← List.length_append]; exact HLw6.out.lines hll
   refine (refEncode_any _ _ _ _ w6 HLI.out (by have h1 := HNL7.out; have h2 := HN7.out; rw [List.length_append] at h1; omega) (fun q hq => (HLw6.out.each q hq).le)).mono ?_
   rintro e w7 ⟨v, rfl, hown, hb⟩
   rw [HWE.out] at hown ⊢
   have HO : Hid (w7.ownsRow w.heap.size 5 1 v (enc (linesR x)).2.length (Lib.byteCells (enc (linesR x)).2)) := own_lower hown.out HBw6.out.b.size
   have HB7 : Hid (Below w.heap.size w w7) := HBw6.out.b.trans (hb.mono HBw6.out.b.size)
   clear hown hb
   go_wp2_with fail
   go_ret2
   exact ⟨v, by rw [HE.out]; rfl, by rw [HE.out]; exact HO, HB7.out⟩
theorem same_any (sp1 sp2 : Option Addr) (n c1 c2 B : Nat) (l : List ByteArray) (w : World) (h1 : StrsIn w B sp1 n l) (h2 : StrsIn w B sp2 n l) (hn : n ≤ 9223372036854775807) :
 Calls Tryz.prog 36 #[.slice sp1 n c1, .slice sp2 n c2] w fun e w' => e = .returned (.bool true) ∧ ∃ m, w' = w.drewN m := by
 have H1 := zh h1; have H2 := zh h2
 clear h1 h2
 go_enter Tryz.func36, Tryz.ntmps36
 go_wp2_with fail
 go_loopw [5] (fun i wr => ∃ k : Nat, k ≤ n ∧ i = .int .i64 k ∧ Hid (∃ m, wr = w.drewN m)) (fun i _ => n - (intOf i).toNat)
 case atStart => exact ⟨0, Nat.zero_le _, rfl, 0, rfl⟩
 case round =>
  obtain ⟨k, hk, rfl, hw⟩ := hrel
  by_cases hlt : k < n
  ·have hd : decide ((k : Int) < (n : Int)) = true := by simp; omega
   have p1 : (0 : Int) ≤ (k : Int) := by omega
   have p2 : (k : Int) < (n : Int) := by omega
   obtain ⟨b1, o1, rfl, _, g1⟩ := H1.out.cells (by omega)
   obtain ⟨b2, o2, rfl, _, g2⟩ := H2.out.cells (by omega)
   have hl := H1.out.len
   have x1 : wr.cell? ⟨b1, o1 + k, none⟩ = some (.string (l[k]'(by omega))) := by
    obtain ⟨m, hm⟩ := hw.out
    rw [hm]; exact g1 k (by omega)
   have x2 : wr.cell? ⟨b2, o2 + k, none⟩ = some (.string (l[k]'(by omega))) := by
    obtain ⟨m, hm⟩ := hw.out
    rw [hm]; exact g2 k (by omega)
   generalize l[k]'(by omega) = x at x1 x2
   have HW : Hid (∀ q, ∃ m, wr.drewN q = w.drewN m) := fun q => by
    obtain ⟨m, hm⟩ := hw.out
    exact ⟨m + q, by rw [hm, World.drewN_drewN]⟩
   clear hw g1 g2 hl
   go_wp2_with fail
   go_quiet (fail)
   go_wp2_with fail
   go_roundw
   case rel => exact ⟨k + 1, by omega, by go_num, HW.out _⟩
   case measure => simp [intOf]; omega
  ·obtain rfl : n = k := by omega
   have hd : decide ((n : Int) < (n : Int)) = false := by simp
   go_wp2_with fail
   go_ret
   exact ⟨rfl, hw.out⟩
end Go.Proofs.YtecllfbadciaoaaGreatDoor
