/-
  The walk of the reference's Decode of records (condition: the bytes stand in memory).
-/
import Derived.Test.YtecllfbadciaoaaGreatDoorZip
import Derived.Test.YtecllfbadciaoaaGreatDoorRdcR
set_option maxRecDepth 100000
set_option maxHeartbeats 8000000
namespace Go.Proofs.YtecllfbadciaoaaGreatDoor
open Go.RowKit
def mkR (a b c : ByteArray) (t : Int) (s : Option Addr) (n cp : Nat) (cs : List ByteArray) : Rc := ⟨a, b, c, t, s, n, cp, cs, none, 0, 0, [], none, 0, 0, [], none, 0, 0, []⟩
theorem buildRcF (a b c : ByteArray) (t : Int) (s : Option Addr) (n cp : Nat) (cs : List ByteArray) (w : World) : (Instr.build 31 #[(0, .string a), (1, .string b), (2, .string c), (3, .int .i64 t), (4, .slice s n cp)]).run Tryz.prog w = .ok (.agg (mkR a b c t s n cp cs).L.toArray) w := by kernel_rfl
theorem rc_nil {x : Rc} (h1 : x.v1 = none) (h2 : x.vn = 0) (h3 : x.vc = 0) (h4 : x.v = []) : ({ x with v1 := none, vn := 0, vc := 0, v := [] } : Rc) = x := by
 cases x
 simp only at h1 h2 h3 h4
 subst h1 h2 h3 h4
 rfl
theorem RawRes.uni {w w' : World} {r : Option (List En)} {e : Ending} (h : RawRes w r e w') : ∃ sp n cap l ok, e = .returned (.tuple #[.slice sp n cap, .bool ok]) ∧ Hid (OwnE w' w.heap.size (.slice sp n cap) l ∧ l.length = n) ∧ ok = r.isSome ∧ (ok = true → r = some l) ∧ Below w.heap.size w w' := by
 cases r with
 | none => obtain ⟨he, hb⟩ := h; exact ⟨none, 0, 0, [], false, he, ⟨⟨World.ownsRow_nil _ _ _ _, by simp⟩, rfl⟩, rfl, fun h => (by cases h), hb⟩
 | some l => obtain ⟨sp, cap, he, ho, hb⟩ := h; exact ⟨sp, l.length, cap, l, true, he, ⟨ho, rfl⟩, rfl, fun _ => rfl, hb⟩
theorem refDecodeR_any (sp : Option Addr) (n cap : Nat) (l : List UInt8) (w : World) (hs : BSrc w w.heap.size sp n cap l) :
 Calls Tryz.prog 9 #[.slice sp n cap] w (DcAns (decW (decC ⟨l.toArray⟩)) w) := by
 have HS := zh hs
 clear hs
 go_enter Tryz.func9, Tryz.ntmps9
 go_upto_region 1 with fail
 generalize hw0 : World.alloc w _ = w0
 have hr0 : w0.heap[w.heap.size]? = some (.cells zX.L.toArray 31 (0, 0)) := by rw [← hw0]; exact heap_alloc_new _ _
 have hb0 : Below w.heap.size w w0 := by rw [← hw0]; exact (Below.refl _ _).alloc (Nat.le_refl _) _
 have HR0 := zh hr0; have HB0 := zh hb0
 have HLT0 : Hid (w.heap.size < w0.heap.size) := (Array.getElem?_eq_some_iff.1 hr0).1
 clear hw0 hr0 hb0
 have HDC := zh (refDecode_any sp n cap l w0 (HS.out.upR HB0.out))
 have HGD := zh (fun h => decC_good (S := ⟨l.toArray⟩) h)
 clear HS
 generalize decC ⟨l.toArray⟩ = D at *
 go_wp2_with fail
 refine HDC.out.mono ?_
 rintro e w1 ⟨sp1, cap1, ls, hws, rfl, hrow, heach, hb1⟩
 have HWS := zh hws
 have HR1 : Hid (w1.heap[w.heap.size]? = some (.cells zX.L.toArray 31 (0, 0))) := (hb1.block _ HLT0.out).trans HR0.out
 have HB1 : Hid (Below w.heap.size w w1) := HB0.out.trans (hb1.mono HB0.out.size)
 have HLI := zh (lines_ownD hrow heach)
 have HCP : Hid (ls.length ≤ cap1) := own_capQ hrow
 have HCE : Hid (∀ q ∈ ls, q.n ≤ q.cap) := fun q hq => own_capQ (heach q hq)
 have HLT1 : Hid (w.heap.size < w1.heap.size) := Nat.lt_of_lt_of_le HLT0.out hb1.size
 have HFL : Hid (∀ q ∈ ls, ∀ b : Nat, (∃ o s, q.sp = some ⟨b, o, s⟩) → w.heap.size < b) := by
  show ∀ _, _
  rintro q hq b ⟨o, s, e⟩
  have h := heach q hq
  unfold LnOwn at h
  obtain ⟨_, ⟨e1, _⟩ | ⟨g, cap', cur, e1, hbg, _⟩⟩ := h
  ·injection e1 with e1 _ _; rw [e1] at e; cases e
  ·injection e1 with e1 _ _
   rw [e1] at e
   injection e with e; injection e with e _ _
   have := HLT0.out
   omega
 clear hws hrow heach hb1 HDC HR0 HB0 HLT0
 obtain ⟨g2, hg2⟩ : ∃ g2, g2 = w.heap.size := ⟨_, rfl⟩
 rw [← hg2] at HR1 HLT1 HFL
 rw [← hg2]
 have HG2 := zh hg2
 clear hg2
 by_cases hc : D.1 = 0
 case neg =>
  have hd : decide ((D.1 : Int) = 0) = false := by rw [decide_eq_false_iff_not]; omega
  have hd2 : ((D.1 : Int) == 0) = false := by rw [beq_eq_false_iff_ne]; omega
  have hd3 : ((D.1 : Int) != 0) = true := by rw [bne_iff_ne]; omega
  have HZ : Hid ((w1.setRow g2 zX.L.toArray).heap[g2]? = some (.cells zX.L.toArray 31 (0, 0))) := setRow_heap _ _ _ _ _ _ HR1.out
  have HBZ : Hid (Below w.heap.size w (w1.setRow g2 zX.L.toArray)) := below_setRow HB1.out (by rw [HG2.out]; exact Nat.le_refl _) _
  have HDW : Hid (decW D = (D.1, zP)) := by show _ = _; unfold decW; rw [if_pos hc]
  clear HLI HCP HCE HWS HFL
  go_wp2_with (first
   | (refine wpList_build_eq rfl 31 [] rfl [] rfl (.agg zX.L.toArray) (buildRc0 _) ?_)
   | (refine wpList_store_row rfl 31 _ _ rfl g2 zX.L.toArray rfl rfl 31 _ HR1.out (infoRcA zX) rfl (oneRc zX) ?_))
  refine bodyPost_ret (results_row_tmp rfl _ _ g2 31 _ (0, 0) _ rfl HZ.out Tryz.underlying31 rfl (infoRcA zX)) rfl ?_
  exact ⟨zX, by rw [HDW.out]; rfl, zX_in _, by rw [HDW.out]; rfl, HBZ.out⟩
 have hgd := HGD.out hc
 have hd : decide ((D.1 : Int) = 0) = true := by rw [decide_eq_true_iff]; omega
 have hd2 : ((D.1 : Int) == 0) = true := by rw [beq_iff_eq]; omega
 have hd3 : ((D.1 : Int) != 0) = false := by rw [bne_eq_false_iff_eq]; omega
 rw [← HWS.out] at hgd
 have HGQ := zh hgd
 have HMW : ∀ q ∈ ls, q.l ∈ wordsOf ls := fun q hq => List.mem_map.2 ⟨q, hq, rfl⟩
 have HLE := zh hgd.1
 have HNE : Hid (∀ q ∈ ls, q.l ≠ []) := fun q hq => (hgd.2 _ (HMW q hq)).1
 have HLQ : Hid (∀ q ∈ ls, q.n ≤ 1000) := fun q hq => by rw [← (HLI.out.each q hq).len]; have := (hgd.2 _ (HMW q hq)).2.1; omega
 have HSZ : Hid (∀ q ∈ ls, ∀ s ∈ q.l, s.size ≤ 100000) := fun q hq s hs => by have := (hgd.2 _ (HMW q hq)).2.2 s hs; omega
 have HNN : Hid (ls.length ≤ 1000) := by show _ ≤ _; rw [← wordsOf_length]; exact hgd.1
 have HDW : Hid (decW D = if formedR (wordsOf ls) = true then (if rpB (recP (wordsOf ls)) = true then (0, recP (wordsOf ls)) else (1, zP)) else (2, zP)) := by
  show _ = _
  unfold decW
  rw [if_neg (fun h => h hc), HWS.out]
 clear hgd HMW HGD hc HWS HLE
 obtain ⟨L, hL⟩ : ∃ L, L = wordsOf ls := ⟨_, rfl⟩
 rw [← hL] at HDW HGQ
 have HLW := zh hL
 clear hL
 obtain ⟨n', hn'⟩ : ∃ n', n' = ls.length := ⟨_, rfl⟩
 rw [← hn'] at HLI HCP HNN
 rw [← hn']
 have HLL := zh hn'
 clear hn'
 by_cases h2 : n' < 2
 ·have hd9 : decide ((n' : Int) < 2) = true := by simp; omega
  clear HLI HCP HCE HFL HNE HLQ HSZ HGQ HLT1
  have hff : formedR L = false := by
   cases hf : formedR L with
   | false => rfl
   | true =>
     obtain ⟨p0, p1, pr, e, k0, k5, k1⟩ := formed_shape hf
     exfalso
     have h1 := HLW.out
     rw [e] at h1
     have h3 := congrArg List.length h1
     rw [wordsOf_length, ← HLL.out] at h3
     simp at h3
     omega
  have HDW2 : Hid (decW D = (2, zP)) := by show _ = _; rw [HDW.out, if_neg (by rw [hff]; simp)]
  have HZ : Hid ((w1.setRow g2 zX.L.toArray).heap[g2]? = some (.cells zX.L.toArray 31 (0, 0))) := setRow_heap _ _ _ _ _ _ HR1.out
  have HBZ : Hid (Below w.heap.size w (w1.setRow g2 zX.L.toArray)) := below_setRow HB1.out (by rw [HG2.out]; exact Nat.le_refl _) _
  have HR' := HR1
  clear hff HDW
  go_wp2_with (first
   | (refine wpList_build_eq rfl 31 [] rfl [] rfl (.agg zX.L.toArray) (buildRc0 _) ?_)
   | (refine wpList_store_row rfl 31 _ _ rfl g2 zX.L.toArray rfl rfl 31 _ HR'.out (infoRcA zX) rfl (oneRc zX) ?_))
  refine bodyPost_ret (results_row_tmp rfl _ _ g2 31 _ (0, 0) _ rfl HZ.out Tryz.underlying31 rfl (infoRcA zX)) rfl ?_
  exact ⟨zX, by rw [HDW2.out]; rfl, zX_in _, by rw [HDW2.out]; rfl, HBZ.out⟩
 have hd9 : decide ((n' : Int) < 2) = false := by simp; omega
 obtain ⟨s0, n0, c0, l0, s1, n1, c1, l1, rest, rfl⟩ : ∃ s0 n0 c0 l0 s1 n1 c1 l1 rest, ls = (⟨s0, n0, c0, l0⟩ : Ln) :: (⟨s1, n1, c1, l1⟩ : Ln) :: rest := by
  have := HLL.out
  match ls, this with
  | [], h => simp at h; omega
  | [_], h => simp at h; omega
  | x :: y :: r, _ => exact ⟨x.sp, x.n, x.cap, x.l, y.sp, y.n, y.cap, y.l, r, rfl⟩
 have HLC : Hid (L = l0 :: l1 :: wordsOf rest) := HLW.out
 obtain ⟨bb, off, rfl, hbb, hcell⟩ := HLI.out.cells (by omega)
 have k0 := hcell 0 (by simp)
 have k1 := hcell 1 (by simp)
 rw [Nat.add_zero] at k0
 replace k0 : w1.cell? ⟨bb, off, none⟩ = some (.slice s0 n0 c0) := k0
 replace k1 : w1.cell? ⟨bb, off + 1, none⟩ = some (.slice s1 n1 c1) := k1
 have HS0 : Hid (StrsIn w1 w1.heap.size s0 n0 l0) := HLI.out.each ⟨s0, n0, c0, l0⟩ (by simp)
 have HS1 : Hid (StrsIn w1 w1.heap.size s1 n1 l1) := HLI.out.each ⟨s1, n1, c1, l1⟩ (by simp)
 have hl0 : l0 ≠ [] := HNE.out ⟨s0, n0, c0, l0⟩ (by simp)
 have hl1 : l1 ≠ [] := HNE.out ⟨s1, n1, c1, l1⟩ (by simp)
 have pa1 : (0 : Int) < (n' : Int) := by omega
 have pa2 : (1 : Int) < (n' : Int) := by omega
 by_cases h5 : n0 = 5
 case neg =>
  have hd5 : ((n0 : Int) == 5) = false := by rw [beq_eq_false_iff_ne]; omega
  have hd6 : ((n0 : Int) != 5) = true := by rw [bne_iff_ne]; omega
  have hl5 : l0.length = n0 := HS0.out.len
  clear HLI HCP HCE HFL HNE HLQ HSZ HGQ HLT1 HS0 HS1 hl0 hl1 hcell
  have hff : formedR L = false := by
   cases hf : formedR L with
   | false => rfl
   | true =>
     obtain ⟨p0, p1, pr, e, k0, k5, k1⟩ := formed_shape hf
     exfalso
     rw [HLC.out] at e
     injection e with e1 e
     rw [← e1, hl5] at k5
     exact h5 k5
  have HDW2 : Hid (decW D = (2, zP)) := by show _ = _; rw [HDW.out, if_neg (by rw [hff]; simp)]
  have HZ : Hid ((w1.setRow g2 zX.L.toArray).heap[g2]? = some (.cells zX.L.toArray 31 (0, 0))) := setRow_heap _ _ _ _ _ _ HR1.out
  have HBZ : Hid (Below w.heap.size w (w1.setRow g2 zX.L.toArray)) := below_setRow HB1.out (by rw [HG2.out]; exact Nat.le_refl _) _
  have HR' := HR1
  clear hff HDW
  go_wp2_with (first
   | (refine wpList_build_eq rfl 31 [] rfl [] rfl (.agg zX.L.toArray) (buildRc0 _) ?_)
   | (refine wpList_store_row rfl 31 _ _ rfl g2 zX.L.toArray rfl rfl 31 _ HR'.out (infoRcA zX) rfl (oneRc zX) ?_))
  refine bodyPost_ret (results_row_tmp rfl _ _ g2 31 _ (0, 0) _ rfl HZ.out Tryz.underlying31 rfl (infoRcA zX)) rfl ?_
  exact ⟨zX, by rw [HDW2.out]; rfl, zX_in _, by rw [HDW2.out]; rfl, HBZ.out⟩
 subst h5
 have hd5 : (((5 : Nat) : Int) == 5) = true := by decide
 have hd6 : (((5 : Nat) : Int) != 5) = false := by decide
 obtain ⟨t0, a, b', c, d, rfl⟩ : ∃ t0 a b' c d, l0 = [t0, a, b', c, d] := by
  have := HS0.out.len
  match l0, this with
  | [t, a, b', c, d], _ => exact ⟨t, a, b', c, d, rfl⟩
 obtain ⟨b2, off2, rfl, hb2, hcell2⟩ := HS0.out.cells (by omega)
 have j0 := hcell2 0 (by simp)
 rw [Nat.add_zero] at j0
 replace j0 : w1.cell? ⟨b2, off2, none⟩ = some (.string t0) := j0
 have j1 : w1.cell? ⟨b2, off2 + 1, none⟩ = some (.string a) := hcell2 1 (by simp)
 have j2 : w1.cell? ⟨b2, off2 + 2, none⟩ = some (.string b') := hcell2 2 (by simp)
 have j3 : w1.cell? ⟨b2, off2 + 3, none⟩ = some (.string c) := hcell2 3 (by simp)
 have j4 : w1.cell? ⟨b2, off2 + 4, none⟩ = some (.string d) := hcell2 4 (by simp)
 by_cases ht0 : t0 = (⟨#[114, 101, 99, 111, 114, 100]⟩ : ByteArray)
 case neg =>
  have hte : (t0.toList == [114, 101, 99, 111, 114, 100]) = false := by rw [beq_eq_false_iff_ne]; exact fun e => ht0 (toList_inj (e.trans (by rw [Lib.toList_data])))
  clear HLI HCP HCE HFL HNE HLQ HSZ HGQ HLT1 HS0 HS1 hl0 hl1 hcell hcell2 j1 j2 j3 j4
  have hff : formedR L = false := by
   cases hf : formedR L with
   | false => rfl
   | true =>
     obtain ⟨p0, p1, pr, e, k0, k5, k1⟩ := formed_shape hf
     exfalso
     rw [HLC.out] at e
     injection e with e1 e
     rw [← e1] at k0
     exact ht0 (of_decide_eq_true k0)
  have HDW2 : Hid (decW D = (2, zP)) := by show _ = _; rw [HDW.out, if_neg (by rw [hff]; simp)]
  have HZ : Hid ((w1.setRow g2 zX.L.toArray).heap[g2]? = some (.cells zX.L.toArray 31 (0, 0))) := setRow_heap _ _ _ _ _ _ HR1.out
  have HBZ : Hid (Below w.heap.size w (w1.setRow g2 zX.L.toArray)) := below_setRow HB1.out (by rw [HG2.out]; exact Nat.le_refl _) _
  have HR' := HR1
  clear hff HDW
  go_wp2_with (first
   | (refine wpList_build_eq rfl 31 [] rfl [] rfl (.agg zX.L.toArray) (buildRc0 _) ?_)
   | (refine wpList_store_row rfl 31 _ _ rfl g2 zX.L.toArray rfl rfl 31 _ HR'.out (infoRcA zX) rfl (oneRc zX) ?_))
  refine bodyPost_ret (results_row_tmp rfl _ _ g2 31 _ (0, 0) _ rfl HZ.out Tryz.underlying31 rfl (infoRcA zX)) rfl ?_
  exact ⟨zX, by rw [HDW2.out]; rfl, zX_in _, by rw [HDW2.out]; rfl, HBZ.out⟩
 subst ht0
 obtain ⟨t1, cs, rfl⟩ : ∃ t1 cs, l1 = t1 :: cs := by
  cases l1 with
  | nil => exact absurd rfl hl1
  | cons x r => exact ⟨x, r, rfl⟩
 have hq1 : 1 ≤ n1 := by have := HS1.out.len; simp at this; omega
 obtain ⟨b3, off3, rfl, hb3, hcell3⟩ := HS1.out.cells (by omega)
 have m0 := hcell3 0 (by simp)
 rw [Nat.add_zero] at m0
 replace m0 : w1.cell? ⟨b3, off3, none⟩ = some (.string t1) := m0
 have hn1 : (0 : Int) < (n1 : Int) := by omega
 by_cases ht1 : t1 = (⟨#[99, 111, 109, 109, 97, 110, 100]⟩ : ByteArray)
 case neg =>
  have hte : (t1.toList == [99, 111, 109, 109, 97, 110, 100]) = false := by rw [beq_eq_false_iff_ne]; exact fun e => ht1 (toList_inj (e.trans (by rw [Lib.toList_data])))
  clear HLI HCP HCE HFL HNE HLQ HSZ HGQ HLT1 HS0 HS1 hl0 hl1 hcell hcell2 hcell3 j1 j2 j3 j4
  have hff : formedR L = false := by
   cases hf : formedR L with
   | false => rfl
   | true =>
     obtain ⟨p0, p1, pr, e, k0, k5, k1⟩ := formed_shape hf
     exfalso
     rw [HLC.out] at e
     injection e with e1 e
     injection e with e2 e
     rw [← e2] at k1
     exact ht1 (of_decide_eq_true k1)
  have HDW2 : Hid (decW D = (2, zP)) := by show _ = _; rw [HDW.out, if_neg (by rw [hff]; simp)]
  have HZ : Hid ((w1.setRow g2 zX.L.toArray).heap[g2]? = some (.cells zX.L.toArray 31 (0, 0))) := setRow_heap _ _ _ _ _ _ HR1.out
  have HBZ : Hid (Below w.heap.size w (w1.setRow g2 zX.L.toArray)) := below_setRow HB1.out (by rw [HG2.out]; exact Nat.le_refl _) _
  have HR' := HR1
  clear hff HDW
  go_wp2_with (first
   | (refine wpList_build_eq rfl 31 [] rfl [] rfl (.agg zX.L.toArray) (buildRc0 _) ?_)
   | (refine wpList_store_row rfl 31 _ _ rfl g2 zX.L.toArray rfl rfl 31 _ HR'.out (infoRcA zX) rfl (oneRc zX) ?_))
  refine bodyPost_ret (results_row_tmp rfl _ _ g2 31 _ (0, 0) _ rfl HZ.out Tryz.underlying31 rfl (infoRcA zX)) rfl ?_
  exact ⟨zX, by rw [HDW2.out]; rfl, zX_in _, by rw [HDW2.out]; rfl, HBZ.out⟩
 subst ht1
 have HQ0 : Hid (n1 ≤ c1) := HCE.out ⟨some ⟨b3, off3, none⟩, n1, c1, (⟨#[99, 111, 109, 109, 97, 110, 100]⟩ : ByteArray) :: cs⟩ (by simp)
 obtain ⟨r, hr⟩ : ∃ r, r = wordsOf rest := ⟨_, rfl⟩
 rw [← hr] at HLC
 have HRF : Hid (formedR L = (pnk d.data.toList && ((E3 r).all len3 && ((rawL matW (E4 r)).isSome && ((rawL prdW (E5 r)).isSome && decide ((F5 r).length = 0)))))) := by
  show _ = _
  rw [HLC.out]; exact (ref_formed (q0 := [(⟨#[114, 101, 99, 111, 114, 100]⟩ : ByteArray), a, b', c, d]) (q1 := (⟨#[99, 111, 109, 109, 97, 110, 100]⟩ : ByteArray) :: cs) (r := r) (show decide ((⟨#[114, 101, 99, 111, 114, 100]⟩ : ByteArray) = recW) = true from decide_eq_true rfl) rfl (show decide ((⟨#[99, 111, 109, 109, 97, 110, 100]⟩ : ByteArray) = cmdW) = true from decide_eq_true rfl)).1
 have HRP : Hid (formedR L = true → recP L = { hdP zP [(⟨#[114, 101, 99, 111, 114, 100]⟩ : ByteArray), a, b', c, d] with c := cs, v := (E3 r).map vrOf, m := (rawL matW (E4 r)).getD [], p := (rawL prdW (E5 r)).getD [] }) := by
  show _ → _
  rw [HLC.out]; exact (ref_formed (q0 := [(⟨#[114, 101, 99, 111, 114, 100]⟩ : ByteArray), a, b', c, d]) (q1 := (⟨#[99, 111, 109, 109, 97, 110, 100]⟩ : ByteArray) :: cs) (r := r) (show decide ((⟨#[114, 101, 99, 111, 114, 100]⟩ : ByteArray) = recW) = true from decide_eq_true rfl) rfl (show decide ((⟨#[99, 111, 109, 109, 97, 110, 100]⟩ : ByteArray) = cmdW) = true from decide_eq_true rfl)).2
 obtain ⟨LS, hLS⟩ : ∃ LS, LS = (⟨some ⟨b2, off2, none⟩, 5, c0, [(⟨#[114, 101, 99, 111, 114, 100]⟩ : ByteArray), a, b', c, d]⟩ : Ln) :: (⟨some ⟨b3, off3, none⟩, n1, c1, (⟨#[99, 111, 109, 109, 97, 110, 100]⟩ : ByteArray) :: cs⟩ : Ln) :: rest := ⟨_, rfl⟩
 have HD2 : Hid ((wordsOf LS).drop 2 = r) := by show _ = _; rw [hLS, hr]; rfl
 have HFQ : Hid (g2 < b3) := HFL.out ⟨some ⟨b3, off3, none⟩, n1, c1, (⟨#[99, 111, 109, 109, 97, 110, 100]⟩ : ByteArray) :: cs⟩ (by simp) b3 ⟨off3, none, rfl⟩
 rw [← hLS] at HLI HNE HLQ HSZ HLL
 obtain ⟨B, hB⟩ : ∃ B, B = w1.heap.size := ⟨_, rfl⟩
 have HBE := zh hB
 have HCL : Hid (∀ w', Below B w1 w' → w'.cell? ⟨bb, off, none⟩ = some (.slice (some ⟨b2, off2, none⟩) 5 c0) ∧ w'.cell? ⟨bb, off + 1, none⟩ = some (.slice (some ⟨b3, off3, none⟩) n1 c1) ∧ w'.cell? ⟨b2, off2 + 1, none⟩ = some (.string a) ∧ w'.cell? ⟨b2, off2 + 2, none⟩ = some (.string b') ∧ w'.cell? ⟨b2, off2 + 3, none⟩ = some (.string c)) := fun w' hb => by
  rw [hB] at hb
  exact ⟨(hb.cell (p := ⟨bb, off, none⟩) hbb).trans k0, (hb.cell (p := ⟨bb, off + 1, none⟩) hbb).trans k1, (hb.cell (p := ⟨b2, off2 + 1, none⟩) hb2).trans j1, (hb.cell (p := ⟨b2, off2 + 2, none⟩) hb2).trans j2, (hb.cell (p := ⟨b2, off2 + 3, none⟩) hb2).trans j3⟩
 have HLB : Hid (∀ w', Below B w1 w' → LinesIn w' B (some ⟨bb, off, none⟩) n' LS) := fun w' hb => by
  rw [hB] at hb ⊢
  exact HLI.out.below hb (Nat.le_refl _)
 have HSC : Hid (∀ w', Below B w1 w' → StrsIn w' B (slZ (some ⟨b3, off3, none⟩) 1 1 c1) (n1 - 1) cs) := fun w' hb => by
  rw [hB] at hb ⊢
  exact (HS1.out.from hq1 HQ0.out).below hb (Nat.le_refl _)
 have HG2B : Hid (g2 < B) := by show _ < _; rw [hB]; exact HLT1.out
 have HSw1 : Hid (Blks B w1 w1 []) := Blks.start (Below.refl _ _) (Nat.le_of_eq hB)
 have HPN := zh (refParseNumber_any d w1)
 have HTV : Hid (-9223372036854775808 ≤ pnv d.data.toList ∧ pnv d.data.toList ≤ 9223372036854775807) := by
  show _ ∧ _
  unfold pnv
  by_cases hk : pnk d.data.toList = true
  ·rw [if_pos hk]; have := (pnk_dec hk).2.2; omega
  ·rw [if_neg hk]; omega
 clear hcell hcell2 hcell3 j1 j2 j3 HLI HFL HS0 HS1 hl0 hl1 hbb hb2 hb3 HLC HCE HLT1 hB hr hLS
 go_wp2_with fail
 refine HPN.out.mono ?_
 rintro e w1' ⟨rfl, rfl⟩
 obtain ⟨tv, htv⟩ : ∃ tv, tv = pnv d.data.toList := ⟨_, rfl⟩
 obtain ⟨f, hf⟩ : ∃ f, f = pnk d.data.toList := ⟨_, rfl⟩
 rw [← htv, ← hf]
 have HTV2 := zh htv; have HF := zh hf
 clear htv hf HPN j0 j4 k0 k1 m0 hd5 hd6
 cases f with
 | false =>
   have hff : formedR L = false := by
    rw [HRF.out, ← HF.out]
    rfl
   have HDW2 : Hid (decW D = (2, zP)) := by show _ = _; rw [HDW.out, if_neg (by rw [hff]; simp)]
   have HZ : Hid ((w1.setRow g2 zX.L.toArray).heap[g2]? = some (.cells zX.L.toArray 31 (0, 0))) := setRow_heap _ _ _ _ _ _ HR1.out
   have HBZ : Hid (Below w.heap.size w (w1.setRow g2 zX.L.toArray)) := below_setRow HB1.out (by rw [HG2.out]; exact Nat.le_refl _) _
   have HR' := HR1
   clear hff HDW
   go_wp2_with (first
    | (refine wpList_build_eq rfl 31 [] rfl [] rfl (.agg zX.L.toArray) (buildRc0 _) ?_)
    | (refine wpList_store_row rfl 31 _ _ rfl g2 zX.L.toArray rfl rfl 31 _ HR'.out (infoRcA zX) rfl (oneRc zX) ?_))
   refine bodyPost_ret (results_row_tmp rfl _ _ g2 31 _ (0, 0) _ rfl HZ.out Tryz.underlying31 rfl (infoRcA zX)) rfl ?_
   exact ⟨zX, by rw [HDW2.out]; rfl, zX_in _, by rw [HDW2.out]; rfl, HBZ.out⟩
 | true =>
 rw [← HF.out, Bool.true_and] at HRF
 go_upto_region 9 with fail
 have pb1 : 0 < n' := by omega
 have pb2 : 1 < n' := by omega
 refine wp_region_held_drew (S := fun w' => Below B w1 w') (by kernel_rfl) HSw1.out.b.drew (fun hHeld => ?_)
 refine zv 0 rfl ?_
 refine zv 1 rfl ?_
 refine zx 2 rfl (v := ?_) ?_ ?_; rotate_left
 ·intro w' hSw; have ce := (HCL.out w' hSw).1; go_simp; try with_reducible rfl
 refine zv 3 rfl ?_
 refine zx 4 rfl (v := ?_) ?_ ?_; rotate_left
 ·intro w' hSw; have ce := (HCL.out w' hSw).2.2.1; go_simp; try with_reducible rfl
 refine zv 5 rfl ?_
 refine zv 6 rfl ?_
 refine zx 7 rfl (v := ?_) ?_ ?_; rotate_left
 ·intro w' hSw; have ce := (HCL.out w' hSw).1; go_simp; try with_reducible rfl
 refine zv 8 rfl ?_
 refine zx 9 rfl (v := ?_) ?_ ?_; rotate_left
 ·intro w' hSw; have ce := (HCL.out w' hSw).2.2.2.1; go_simp; try with_reducible rfl
 refine zv 10 rfl ?_
 refine zv 11 rfl ?_
 refine zx 12 rfl (v := ?_) ?_ ?_; rotate_left
 ·intro w' hSw; have ce := (HCL.out w' hSw).1; go_simp; try with_reducible rfl
 refine zv 13 rfl ?_
 refine zx 14 rfl (v := ?_) ?_ ?_; rotate_left
 ·intro w' hSw; have ce := (HCL.out w' hSw).2.2.2.2; go_simp; try with_reducible rfl
 refine zv 15 rfl ?_
 refine zv 16 rfl ?_
 refine zv 17 rfl ?_
 refine zx 18 rfl (v := ?_) ?_ ?_; rotate_left
 ·intro w' hSw; have ce := (HCL.out w' hSw).2.1; go_simp; try with_reducible rfl
 refine zx 19 rfl (v := ?_) ?_ ?_; rotate_left
 ·intro w' hSw; have ce := run_fromZ (t := 27) Tryz.underlying27 infoStrU w' (some ⟨b3, off3, none⟩) n1 c1 1 hq1; rw [show ((1 : Nat) : Int) = 1 from rfl] at ce; go_simp; try with_reducible rfl
 refine zk 20 rfl (v := _) (yieldsIf_buildS (by rfl) 31 [(0, .tmp 69), (1, .tmp 74), (2, .tmp 79), (3, .tmp 80), (4, .tmp 84)] rfl [(0, .string a), (1, .string b'), (2, .string c), (3, .int .i64 tv), (4, .slice (slZ (some ⟨b3, off3, none⟩) 1 1 c1) (n1 - 1) (c1 - 1))] rfl _ (fun w' _ => buildRcF a b' c tv (slZ (some ⟨b3, off3, none⟩) 1 1 c1) (n1 - 1) (c1 - 1) cs w')) ?rest20n21
 try simp only [Act.put, zuA, zuB, zuC, zuD, zuY, zuF]
 refine zr 21 rfl (fun K hK => ?_)
 obtain ⟨gr, v1, hg, hw, HSv1, HEv1⟩ := HSw1.out.allocdD (.cells zRc 31 (0, 0))
 go_simp
 try rw [hg]
 generalize hq : World.drew (World.alloc w1 _) = q
 obtain rfl : v1 = q := hw.symm.trans hq
 clear hg hw hq
 refine hK.out _ _ HSv1.out.b fun _ => ?_; clear hK K
 refine zr 22 rfl (fun K hK => ?_)
 rw [if_pos (by rfl)]
 refine wp_store_row 31 _ _ rfl gr (mkR a b' c tv (slZ (some ⟨b3, off3, none⟩) 1 1 c1) (n1 - 1) (c1 - 1) cs).L.toArray rfl rfl 31 _ (HSv1.out.at 0 rfl) (infoRcA _) rfl (oneRc _) ?_
 generalize hw : World.setRow v1 _ _ = v2
 have HSv2 := zh (HSv1.out.set 0 rfl (mkR a b' c tv (slZ (some ⟨b3, off3, none⟩) 1 1 c1) (n1 - 1) (c1 - 1) cs).L.toArray)
 rw [hw] at HSv2
 clear hw
 refine hK.out _ _ HSv2.out.b fun _ => ?_; clear hK K
 refine zd ?_ _
 obtain ⟨wf, hwf⟩ : ∃ wf, wf = v2 := ⟨_, rfl⟩
 have HSF := HSv2
 rw [← hwf] at HSF
 rw [← hwf]
 clear hwf
 obtain ⟨x0, hx0⟩ : ∃ x0, x0 = (mkR a b' c tv (slZ (some ⟨b3, off3, none⟩) 1 1 c1) (n1 - 1) (c1 - 1) cs) := ⟨_, rfl⟩
 have HRW : Hid (RbB gr B x0 wf) := by
  rw [hx0]
  exact ⟨HSF.out.at 0 rfl, (HSF.out.lt 0 rfl).1, HSC.out _ HSF.out.b, ⟨World.ownsRow_nil _ _ _ _, rfl⟩⟩
 have HXP : Hid (x0.pl = { hdP zP [(⟨#[114, 101, 99, 111, 114, 100]⟩ : ByteArray), a, b', c, d] with c := cs } ∧ x0.c1 = slZ (some ⟨b3, off3, none⟩) 1 1 c1 ∧ x0.v1 = none ∧ x0.vn = 0 ∧ x0.vc = 0 ∧ x0.v = []) := by
  rw [hx0]
  refine ⟨?_, rfl, rfl, rfl, rfl, rfl⟩
  show _ = ({ hdP zP [(⟨#[114, 101, 99, 111, 114, 100]⟩ : ByteArray), a, b', c, d] with c := cs } : Rp)
  unfold hdP mkR Rc.pl
  simp only [List.getD_cons_zero, List.getD_cons_succ]
  rw [← HTV2.out]
  rfl
 have HBV : Hid (Below B w1 wf) := HSF.out.b
 have HRV : Hid (wf.heap[g2]? = some (.cells zX.L.toArray 31 (0, 0))) := (HBV.out.block _ HG2B.out).trans HR1.out
 have HBW : Hid (Below w.heap.size w wf) := HB1.out.trans (HBV.out.mono (by rw [HBE.out]; exact HB1.out.size))
 have HGR : Hid (g2 ≠ gr) := by show _ ≠ _; have := (HSF.out.lt 0 rfl).1; have := HG2B.out; omega
 have HRN := zh (runL_any envW B (some ⟨bb, off, none⟩) n' cap1 2 LS wf (HLB.out _ HBV.out) HNE.out (by have := HNN.out; omega) (by omega))
 have HWL : Hid (w.heap.size ≤ w1.heap.size) := HB1.out.size
 clear HSF hx0 HTV2 HCL HSC HSw1 HR1 HB1
 go_wp2_with fail
 refine HRN.out.mono ?_
 rintro e we ⟨k, hk, e1, e2, rfl, rfl⟩
 rw [HD2.out] at e1 e2
 have HE1 : Hid (E3 r = r.take k) := e1
 have HE2 : Hid (F3 r = (wordsOf LS).drop (2 + k)) := e2
 clear e1 e2 HRN
 go_wp2_with fail
 go_loopw [9, 10] (fun s9 s10 wr => ∃ (cc j : Nat) (v1 : Option Addr) (vn vc : Nat) (vl : List Vr), s9 = .int .i64 j ∧ s10 = .int .i64 cc ∧ (j + cc = 2 + k ∧ 2 ≤ j) ∧ Hid (RbB gr B ({ x0 with v1 := v1, vn := vn, vc := vc, v := vl } : Rc) wr) ∧ Hid (Frm gr B wf wr) ∧ Hid (vn ≤ j) ∧ Hid ((r.take (j - 2)).all len3 = true) ∧ Hid (vl = (r.take (j - 2)).map vrOf)) (fun _ s10 _ => (intOf s10).toNat)
 case atStart =>
  refine ⟨k, 2, none, 0, 0, [], rfl, rfl, ⟨by omega, by omega⟩, ?_, Frm.refl _ _ _, by show 0 ≤ 2; omega, rfl, rfl⟩
  obtain ⟨-, -, e1, e2, e3, e4⟩ := HXP.out
  show RbB _ _ _ _
  rw [rc_nil e1 e2 e3 e4]
  exact HRW.out
 case round =>
  obtain ⟨cc, j, v1, vn, vc, vl, rfl, rfl, hjc, HRB, HT, HVN, HAL, HVL⟩ := hrel
  clear HRW
  by_cases hlt : 0 < cc
  ·have hd : decide ((cc : Int) > 0) = true := by simp; omega
   have hjn : j < n' := by omega
   have hjk : j - 2 < k := by omega
   obtain ⟨bx, ox, hxx, hbx, hcx⟩ := (HLB.out wf HBV.out).cells (by omega)
   injection hxx with hxx
   injection hxx with hx1 hx2 _
   subst hx1 hx2
   have hjl : j < LS.length := by have := HLL.out; omega
   have ck := hcx j hjl
   have hqm : LS[j] ∈ LS := List.getElem_mem _
   have HST := zh ((HLB.out wf HBV.out).each _ hqm)
   have hwk : r[j - 2]? = some LS[j].l := by
    rw [← HD2.out, List.getElem?_drop, show 2 + (j - 2) = j by omega]
    unfold wordsOf
    rw [List.getElem?_map, List.getElem?_eq_getElem hjl]; rfl
   clear hcx
   obtain ⟨qs, qn, qc, ql, hqe⟩ : ∃ qs qn qc ql, LS[j] = (⟨qs, qn, qc, ql⟩ : Ln) := ⟨LS[j].sp, LS[j].n, LS[j].cap, LS[j].l, rfl⟩
   rw [hqe] at ck HST hwk
   replace HST : Hid (StrsIn wf B qs qn ql) := HST
   replace ck : wf.cell? ⟨bb, off + j, none⟩ = some (.slice qs qn qc) := ck
   replace hwk : r[j - 2]? = some ql := hwk
   have ckr : wr.cell? ⟨bb, off + j, none⟩ = some (.slice qs qn qc) := (HT.out.b.cell (p := ⟨bb, off + j, none⟩) hbx).trans ck
   have HWK := zh hwk
   have pj1 : (0 : Int) ≤ (j : Int) := by omega
   have pj2 : (j : Int) < (n' : Int) := by omega
   have HRR : Hid (wr.heap[g2]? = some (.cells zX.L.toArray 31 (0, 0))) := (HT.out.k _ _ _ _ HRV.out HGR.out (by decide)).trans HRV.out
   have HBR : Hid (Below w.heap.size w wr) := HBW.out.trans (HT.out.b.mono (by rw [HBE.out]; exact HWL.out))
   clear hqe hwk hqm hjl ck
   by_cases h3 : qn = 3
   case neg =>
    have hd3 : ((qn : Int) == 3) = false := by rw [beq_eq_false_iff_ne]; omega
    have hd4 : ((qn : Int) != 3) = true := by rw [bne_iff_ne]; omega
    have hl3 : len3 ql = false := by unfold len3; rw [HST.out.len]; exact decide_eq_false h3
    clear HST HRB HT
    have hff : formedR L = false := by
     rw [HRF.out, HE1.out]
     have hn3 : (r.take k).all len3 = false := by
      rw [List.all_eq_false]
      refine ⟨ql, ?_, by rw [hl3]; simp⟩
      rw [List.mem_iff_getElem?]
      exact ⟨j - 2, by rw [List.getElem?_take, if_pos hjk]; exact HWK.out⟩
     rw [hn3]; simp
    have HDW2 : Hid (decW D = (2, zP)) := by show _ = _; rw [HDW.out, if_neg (by rw [hff]; simp)]
    have HZ : Hid ((wr.setRow g2 zX.L.toArray).heap[g2]? = some (.cells zX.L.toArray 31 (0, 0))) := setRow_heap _ _ _ _ _ _ HRR.out
    have HBZ : Hid (Below w.heap.size w (wr.setRow g2 zX.L.toArray)) := below_setRow HBR.out (by rw [HG2.out]; exact Nat.le_refl _) _
    have HR' := HRR
    clear hff HDW
    go_wp2_with (first
     | (refine wpList_build_eq rfl 31 [] rfl [] rfl (.agg zX.L.toArray) (buildRc0 _) ?_)
     | (refine wpList_store_row rfl 31 _ _ rfl g2 zX.L.toArray rfl rfl 31 _ HR'.out (infoRcA zX) rfl (oneRc zX) ?_))
    refine bodyPost_ret (results_row_tmp rfl _ _ g2 31 _ (0, 0) _ rfl HZ.out Tryz.underlying31 rfl (infoRcA zX)) rfl ?_
    exact ⟨zX, by rw [HDW2.out]; rfl, zX_in _, by rw [HDW2.out]; rfl, HBZ.out⟩
   subst h3
   have hd3 : (((3 : Nat) : Int) == 3) = true := by decide
   have hd4 : (((3 : Nat) : Int) != 3) = false := by decide
   have hl3 : Hid (len3 ql = true) := by show _ = _; unfold len3; rw [HST.out.len]; rfl
   obtain ⟨z0, z1, z2, hq⟩ : ∃ z0 z1 z2, ql = [z0, z1, z2] := by
    have := HST.out.len
    match ql, this with
    | [x, y, z], _ => exact ⟨x, y, z, rfl⟩
   obtain ⟨b5, off5, hs5, hb5, hcell5⟩ := HST.out.cells (by omega)
   subst hs5
   subst hq
   have HWD : Hid (∀ w', Below B wr w' → w'.cell? ⟨bb, off + j, none⟩ = some (.slice (some ⟨b5, off5, none⟩) 3 qc) ∧ w'.cell? ⟨b5, off5 + 1, none⟩ = some (.string z1) ∧ w'.cell? ⟨b5, off5 + 2, none⟩ = some (.string z2)) := fun w' hb =>
    ⟨(hb.cell (p := ⟨bb, off + j, none⟩) hbx).trans ckr, ((HT.out.b.trans hb).cell (p := ⟨b5, off5 + 1, none⟩) hb5).trans (hcell5 1 (by simp)), ((HT.out.b.trans hb).cell (p := ⟨b5, off5 + 2, none⟩) hb5).trans (hcell5 2 (by simp))⟩
   have hjs : j + 1 - 2 = (j - 2) + 1 := by omega
   have HAL2 : Hid ((r.take (j + 1 - 2)).all len3 = true) := by show _ = _; rw [hjs, all3_succ HWK.out, hl3.out, Bool.and_true]; exact HAL.out
   have HVL2 : Hid (vl ++ [(⟨z1, z2⟩ : Vr)] = (r.take (j + 1 - 2)).map vrOf) := by show _ = _; rw [hjs, map3_succ HWK.out, HVL.out]; rfl
   have hvn : vn ≤ 2000 := by have := HVN.out; have := HNN.out; omega
   have hjm : j ≤ 1000 := by have := HNN.out; omega
   have hvj : vn ≤ j := HVN.out
   have hcm : cc ≤ 2000 := by have := HNN.out; omega
   clear HST hcell5 hb5 hbx HAL HVL HWK hl3 hd hjs HRR HBR
   go_upto_region 16 with fail
   clear ckr hd3 hd4
   refine wp_region_held_drew (S := fun w' => Below B wr w') (by kernel_rfl) (Below.refl B wr).drew (fun hHeld => ?_)
   have HDd := zh (HRB.out.below (Below.refl wr.heap.size wr).drew)
   have HBd : Hid (Below B wr wr.drew) := (Below.refl B wr).drew
   have HTd : Hid (Frm gr B wr wr.drew) := Frm.of (Nat.le_of_lt (Nat.lt_of_le_of_lt HDd.out.lo HRB.out.lt)) (Below.refl wr.heap.size wr).drew
   clear HRB
   generalize World.drew wr = wd at *
   refine zv 0 rfl ?_
   refine zv 2 rfl ?_
   refine zv 3 rfl ?_
   refine zv 4 rfl ?_
   refine zx 5 rfl (v := ?_) ?_ ?_; rotate_left
   ·intro w' hSw; have ce := (HWD.out w' hSw).1; go_simp; try with_reducible rfl
   refine zv 6 rfl ?_
   refine zx 7 rfl (v := ?_) ?_ ?_; rotate_left
   ·intro w' hSw; have ce := (HWD.out w' hSw).2.1; go_simp; try with_reducible rfl
   refine zv 8 rfl ?_
   refine zv 9 rfl ?_
   refine zv 10 rfl ?_
   refine zx 11 rfl (v := ?_) ?_ ?_; rotate_left
   ·intro w' hSw; have ce := (HWD.out w' hSw).1; go_simp; try with_reducible rfl
   refine zv 12 rfl ?_
   refine zx 13 rfl (v := ?_) ?_ ?_; rotate_left
   ·intro w' hSw; have ce := (HWD.out w' hSw).2.2; go_simp; try with_reducible rfl
   refine zk 14 rfl (v := _) (yieldsIf_buildS (by rfl) 61 [(0, .tmp 107), (1, .tmp 113)] rfl [(0, .string z1), (1, .string z2)] rfl _ (fun w' _ => buildVr z1 z2 w')) ?rest14n35
   try simp only [Act.put, zuA, zuB, zuC, zuD, zuY, zuF]
   refine zs 1 15 rfl (fun K hK => ?_) rfl (fun K hK => ?_)
   ·rw [if_pos (by rfl)]
    have k1 : World.cell? wd ⟨gr, 5, none⟩ = some (.slice v1 vn vc) := (HDd.out.cell (j := 5) rfl).1
    go_simp
    refine hK.out _ _ HBd.out (fun hHeld => ?_)
    clear hK K k1
    try simp only [Act.put, zuA, zuB, zuC, zuD, zuY, zuF]
    refine zr 15 rfl (fun K hK => ?_)
    rw [if_pos (by rfl)]
    refine wp_slice_eqR 28 1 [(0, .tmp 114)] rfl [(0, .agg #[.string z1, .string z2])] rfl _ _ (sliceV1 z1 z2 _) ?_
    have HDa := zh (HDd.out.below (Below.refl wd.heap.size wd |>.alloc (Nat.le_refl _) (.cells #[.string z1, .string z2] 61)))
    have HBa : Hid (Below B wr (wd.alloc (.cells #[.string z1, .string z2] 61))) := HBd.out.alloc (Nat.le_of_lt (Nat.lt_of_le_of_lt HDd.out.lo HDd.out.lt)) _
    have HTa : Hid (Frm gr B wr (wd.alloc (.cells #[.string z1, .string z2] 61))) := HTd.out.trans (Frm.of (Nat.le_of_lt (Nat.lt_of_le_of_lt HDd.out.lo HDd.out.lt)) ((Below.refl _ _).alloc (Nat.le_refl _) _))
    have HNa : Hid ((wd.alloc (.cells #[.string z1, .string z2] 61)).heap[wd.heap.size]? = some (.cells (vrL ⟨z1, z2⟩).toArray 61 (0, 0))) := heap_alloc_new wd _
    clear HDd HBd HTd
    generalize (wd.alloc (.cells #[.string z1, .string z2] 61)) = wa at *
    generalize wd.heap.size = ga at *
    refine hK.out _ _ HBa.out fun _ => ?_; clear hK K
    try simp only [Act.put, zuA, zuB, zuC, zuD, zuY, zuF]
    refine zr 16 rfl (fun K hK => ?_)
    rw [if_pos (by rfl)]
    refine wp_append_vr (.tmp 101) (.tmp 115) rfl B _ vl vn rfl HDa.out.v.2.symm HDa.out.v.1 ga ⟨z1, z2⟩ rfl HNa.out (by omega) (Nat.le_of_lt (Nat.lt_of_le_of_lt HDa.out.lo HDa.out.lt)) ?_
    intro sp7 cap7 w7 HO7 HG7
    have HD8 := zh (HDa.out.push sp7 cap7 ⟨z1, z2⟩ w7 HO7.out HG7.out)
    have HR7 := HDa.out.grownRow HG7.out
    have HB7 : Hid (Below B wr w7) := HBa.out.grown HG7.out (Nat.le_of_lt (Nat.lt_of_le_of_lt HDa.out.lo HDa.out.lt)) (own_baseG HDa.out.v.1)
    have HT8 : Hid (Frm gr B wr (w7.setCell ⟨gr, 5, none⟩ (.slice sp7 (vn + 1) cap7))) := HTa.out.trans (HDa.out.pushFrm HG7.out _)
    have HB8 : Hid (Below B wr (w7.setCell ⟨gr, 5, none⟩ (.slice sp7 (vn + 1) cap7))) := HB7.out.setCell (p := ⟨gr, 5, none⟩) HD8.out.lo _
    refine hK.out _ _ HB7.out (fun hHeld => ?_)
    clear hK K HO7 HG7 HNa HBa HTa HDa
    try simp only [Act.put, zuA, zuB, zuC, zuD, zuY, zuF]
    refine zv 17 rfl ?_
    refine zr 18 rfl (fun K hK => ?_)
    rw [if_pos (by rfl)]
    have cS : w7.cell? ⟨gr, 5, none⟩ = some (.slice v1 vn vc) := heap_cellR HR7 rfl
    have fS : w7.frozen? ⟨gr, 5, none⟩ = false := frozen_of_row _ _ _ _ _ HR7
    go_simp
    clear cS fS HR7
    generalize World.setCell w7 _ _ = w8 at *
    refine hK.out _ _ HB8.out fun _ => ?_; clear hK K
    try simp only [Act.put, zuA, zuB, zuC, zuD, zuY, zuF]
    refine zd ?_ _
    go_wp2_with fail
    go_roundw
    case rel => exact ⟨cc - 1, j + 1, sp7, vn + 1, cap7, vl ++ [(⟨z1, z2⟩ : Vr)], by go_num, by go_num, ⟨by omega, by omega⟩, HD8.out, HT.out.trans HT8.out, by show _ ≤ _; omega, HAL2.out, HVL2.out⟩
    case measure => simp [intOf]; omega
   ·rw [if_pos (by rfl)]
    refine wp_slice_eqR 28 1 [(0, .tmp 114)] rfl [(0, .agg #[.string z1, .string z2])] rfl _ _ (sliceV1 z1 z2 _) ?_
    have HDa := zh (HDd.out.below (Below.refl wd.heap.size wd |>.alloc (Nat.le_refl _) (.cells #[.string z1, .string z2] 61)))
    have HBa : Hid (Below B wr (wd.alloc (.cells #[.string z1, .string z2] 61))) := HBd.out.alloc (Nat.le_of_lt (Nat.lt_of_le_of_lt HDd.out.lo HDd.out.lt)) _
    have HTa : Hid (Frm gr B wr (wd.alloc (.cells #[.string z1, .string z2] 61))) := HTd.out.trans (Frm.of (Nat.le_of_lt (Nat.lt_of_le_of_lt HDd.out.lo HDd.out.lt)) ((Below.refl _ _).alloc (Nat.le_refl _) _))
    have HNa : Hid ((wd.alloc (.cells #[.string z1, .string z2] 61)).heap[wd.heap.size]? = some (.cells (vrL ⟨z1, z2⟩).toArray 61 (0, 0))) := heap_alloc_new wd _
    clear HDd HBd HTd
    generalize (wd.alloc (.cells #[.string z1, .string z2] 61)) = wa at *
    generalize wd.heap.size = ga at *
    refine hK.out _ _ HBa.out fun _ => ?_; clear hK K
    try simp only [Act.put, zuA, zuB, zuC, zuD, zuY, zuF]
    refine zr 1 rfl (fun K hK => ?_)
    rw [if_pos (by rfl)]
    have k1 : World.cell? wa ⟨gr, 5, none⟩ = some (.slice v1 vn vc) := (HDa.out.cell (j := 5) rfl).1
    go_simp
    refine hK.out _ _ HBa.out (fun hHeld => ?_)
    clear hK K k1
    try simp only [Act.put, zuA, zuB, zuC, zuD, zuY, zuF]
    refine zr 16 rfl (fun K hK => ?_)
    rw [if_pos (by rfl)]
    refine wp_append_vr (.tmp 101) (.tmp 115) rfl B _ vl vn rfl HDa.out.v.2.symm HDa.out.v.1 ga ⟨z1, z2⟩ rfl HNa.out (by omega) (Nat.le_of_lt (Nat.lt_of_le_of_lt HDa.out.lo HDa.out.lt)) ?_
    intro sp7 cap7 w7 HO7 HG7
    have HD8 := zh (HDa.out.push sp7 cap7 ⟨z1, z2⟩ w7 HO7.out HG7.out)
    have HR7 := HDa.out.grownRow HG7.out
    have HB7 : Hid (Below B wr w7) := HBa.out.grown HG7.out (Nat.le_of_lt (Nat.lt_of_le_of_lt HDa.out.lo HDa.out.lt)) (own_baseG HDa.out.v.1)
    have HT8 : Hid (Frm gr B wr (w7.setCell ⟨gr, 5, none⟩ (.slice sp7 (vn + 1) cap7))) := HTa.out.trans (HDa.out.pushFrm HG7.out _)
    have HB8 : Hid (Below B wr (w7.setCell ⟨gr, 5, none⟩ (.slice sp7 (vn + 1) cap7))) := HB7.out.setCell (p := ⟨gr, 5, none⟩) HD8.out.lo _
    refine hK.out _ _ HB7.out (fun hHeld => ?_)
    clear hK K HO7 HG7 HNa HBa HTa HDa
    try simp only [Act.put, zuA, zuB, zuC, zuD, zuY, zuF]
    refine zv 17 rfl ?_
    refine zr 18 rfl (fun K hK => ?_)
    rw [if_pos (by rfl)]
    have cS : w7.cell? ⟨gr, 5, none⟩ = some (.slice v1 vn vc) := heap_cellR HR7 rfl
    have fS : w7.frozen? ⟨gr, 5, none⟩ = false := frozen_of_row _ _ _ _ _ HR7
    go_simp
    clear cS fS HR7
    generalize World.setCell w7 _ _ = w8 at *
    refine hK.out _ _ HB8.out fun _ => ?_; clear hK K
    try simp only [Act.put, zuA, zuB, zuC, zuD, zuY, zuF]
    refine zd ?_ _
    go_wp2_with fail
    go_roundw
    case rel => exact ⟨cc - 1, j + 1, sp7, vn + 1, cap7, vl ++ [(⟨z1, z2⟩ : Vr)], by go_num, by go_num, ⟨by omega, by omega⟩, HD8.out, HT.out.trans HT8.out, by show _ ≤ _; omega, HAL2.out, HVL2.out⟩
    case measure => simp [intOf]; omega
  ·obtain rfl : cc = 0 := by omega
   have hd : decide (((0 : Nat) : Int) > 0) = false := by decide
   have hjk : j = 2 + k := by omega
   obtain ⟨x1, hx1⟩ : ∃ x1 : Rc, x1 = ({ x0 with v1 := v1, vn := vn, vc := vc, v := vl } : Rc) := ⟨_, rfl⟩
   rw [← hx1] at HRB
   have HX1 : Hid (x1.pl = { hdP zP [(⟨#[114, 101, 99, 111, 114, 100]⟩ : ByteArray), a, b', c, d] with c := cs, v := (E3 r).map vrOf } ∧ x1.c1 = slZ (some ⟨b3, off3, none⟩) 1 1 c1) := by
    rw [hx1]
    refine ⟨?_, HXP.out.2.1⟩
    show ({ x0.pl with v := vl } : Rp) = _
    rw [HXP.out.1, HVL.out, HE1.out, show j - 2 = k by omega]
   have HAL3 : Hid ((E3 r).all len3 = true) := by
    have := HAL.out
    rw [show j - 2 = k by omega] at this
    show _ = _
    rw [HE1.out]; exact this
   have HRR : Hid (wr.heap[g2]? = some (.cells zX.L.toArray 31 (0, 0))) := (HT.out.k _ _ _ _ HRV.out HGR.out (by decide)).trans HRV.out
   have HBR : Hid (Below w.heap.size w wr) := HBW.out.trans (HT.out.b.mono (by rw [HBE.out]; exact HWL.out))
   have HLR : Hid (LinesIn wr B (some ⟨bb, off, none⟩) n' LS) := HLB.out _ (HBV.out.trans HT.out.b)
   have HE3 : Hid (F3 r = (wordsOf LS).drop j) := by show _ = _; rw [HE2.out, hjk]
   have hn1000 : n' ≤ 1000 := HNN.out
   have HM1 := zh (runL_any matW B (some ⟨bb, off, none⟩) n' cap1 j LS wr HLR.out HNE.out (by omega) (by omega))
   have hjn : j ≤ n' := by omega
   clear hx1 HXP HVL HAL HE1 HE2 HT HRV HBW HVN HLB HBV hjk
   go_wp2_with fail
   refine HM1.out.mono ?_
   rintro e wm ⟨k1, hk1, e1, e2, rfl, rfl⟩
   have HE4 : Hid (E4 r = ((wordsOf LS).drop j).take k1) := by show _ = _; unfold E4; rw [HE3.out]; exact e1
   have HE5 : Hid (F4 r = (wordsOf LS).drop (j + k1)) := by show _ = _; unfold F4; rw [HE3.out]; exact e2
   obtain ⟨j1, hj1⟩ : ∃ j1, j1 = j + k1 := ⟨_, rfl⟩
   rw [← hj1] at HE5
   have hi1 : (j : Int) + (k1 : Int) = (j1 : Int) := by omega
   have q1 : IntKind.i64.wrap ((j : Int) + (k1 : Int)) = (j1 : Int) := by rw [hi1]; exact IntWalk.i64_in _ (by omega)
   have HM2 := zh (runL_any prdW B (some ⟨bb, off, none⟩) n' cap1 j1 LS wr HLR.out HNE.out (by omega) (by omega))
   have hj1n : j1 ≤ n' := by omega
   have hjj1 : j ≤ j1 := by omega
   have HJ1 : Hid (j1 - j = k1) := by show _ = _; omega
   clear e1 e2 HM1 HE3 hj1 hd
   go_wp2_with fail
   refine HM2.out.mono ?_
   rintro e wp ⟨k2, hk2, e1, e2, rfl, rfl⟩
   have HE6 : Hid (E5 r = ((wordsOf LS).drop j1).take k2) := by show _ = _; unfold E5; rw [HE5.out]; exact e1
   have HE7 : Hid (F5 r = (wordsOf LS).drop (j1 + k2)) := by show _ = _; unfold F5; rw [HE5.out]; exact e2
   obtain ⟨j2, hj2⟩ : ∃ j2, j2 = j1 + k2 := ⟨_, rfl⟩
   rw [← hj2] at HE7
   have hi2 : (j1 : Int) + (k2 : Int) = (j2 : Int) := by omega
   have q2 : IntKind.i64.wrap ((j1 : Int) + (k2 : Int)) = (j2 : Int) := by rw [hi2]; exact IntWalk.i64_in _ (by omega)
   have hj2n : j2 ≤ n' := by omega
   have hjj2 : j1 ≤ j2 := by omega
   have HJ2 : Hid (j2 - j1 = k2) := by show _ = _; omega
   clear e1 e2 HM2 HE5 hj2
   have hBw : B ≤ wr.heap.size := Nat.le_of_lt (Nat.lt_of_le_of_lt HRB.out.lo HRB.out.lt)
   have HBWR := zh hBw
   have hs1 := run_midZ (t := 59) Tryz.underlying59 infoLS wr (some ⟨bb, off, none⟩) n' cap1 j j1 hjj1 hj1n HCP.out
   have hmem : ∀ (x y : Nat) (q : Ln), q ∈ (LS.drop x).take y → q ∈ LS := fun x y q hq => List.mem_of_mem_drop (List.mem_of_mem_take hq)
   have HA1 := zh ((Raw_any matW _ (j1 - j) (cap1 - j) _ wr ((HLR.out.mid hjj1 hj1n HCP.out).more hBw) (by omega) (fun q hq => by have := HLQ.out q (hmem _ _ q hq); omega) (fun q hq t p f e => by have := HSZ.out q (hmem _ _ q hq) f (by rw [e]; simp); omega)).mono fun e w' h => h.uni)
   have hwm : wordsOf ((LS.drop j).take (j1 - j)) = E4 r := by
    rw [HE4.out, HJ1.out]; unfold wordsOf; rw [List.map_take, List.map_drop]
   rw [hwm] at HA1
   clear hwm
   go_wp2_with fail
   refine HA1.out.mono ?_
   rintro e w5 ⟨spm, nm, cm, lm, okm, rfl, hom, hokm, hrm, hb5⟩
   have HOM := hom; have HKM := zh hokm; have HRM := zh hrm
   have HRB5 := zh (HRB.out.below hb5)
   have HRR5 : Hid (w5.heap[g2]? = some (.cells zX.L.toArray 31 (0, 0))) := (hb5.block _ (Nat.lt_of_lt_of_le HG2B.out HBWR.out)).trans HRR.out
   have HBR5 : Hid (Below w.heap.size w w5) := HBR.out.trans (hb5.mono HBR.out.size)
   have HLR5 : Hid (LinesIn w5 B (some ⟨bb, off, none⟩) n' LS) := HLR.out.below hb5 HBWR.out
   have hBw5 : B ≤ w5.heap.size := Nat.le_trans HBWR.out hb5.size
   have HB5 := zh hBw5
   clear hom hokm hrm hb5 HA1 hs1 HRB HRR HBR HLR
   have hs2 := run_midZ (t := 59) Tryz.underlying59 infoLS w5 (some ⟨bb, off, none⟩) n' cap1 j1 j2 hjj2 hj2n HCP.out
   have HA2 := zh ((Raw_any prdW _ (j2 - j1) (cap1 - j1) _ w5 ((HLR5.out.mid hjj2 hj2n HCP.out).more hBw5) (by omega) (fun q hq => by have := HLQ.out q (hmem _ _ q hq); omega) (fun q hq t p f e => by have := HSZ.out q (hmem _ _ q hq) f (by rw [e]; simp); omega)).mono fun e w' h => h.uni)
   have hwp : wordsOf ((LS.drop j1).take (j2 - j1)) = E5 r := by
    rw [HE6.out, HJ2.out]; unfold wordsOf; rw [List.map_take, List.map_drop]
   rw [hwp] at HA2
   clear hwp hmem hBw5
   go_wp2_with fail
   refine HA2.out.mono ?_
   rintro e w6 ⟨spp, np, cp, lp, okp, rfl, hop, hokp, hrp, hb6⟩
   have HOP : Hid (OwnE w6 B (.slice spp np cp) lp ∧ lp.length = np) := ⟨hop.out.1.base HB5.out, hop.out.2⟩
   have HKP := zh hokp; have HRPP := zh hrp
   have HOM6 : Hid (OwnE w6 B (.slice spm nm cm) lm ∧ lm.length = nm) := ⟨(HOM.out.1.below hb6).base HBWR.out, HOM.out.2⟩
   have HRB6 := zh (HRB5.out.below hb6)
   have HRR6 : Hid (w6.heap[g2]? = some (.cells zX.L.toArray 31 (0, 0))) := (hb6.block _ (Nat.lt_of_lt_of_le HG2B.out HB5.out)).trans HRR5.out
   have HBR6 : Hid (Below w.heap.size w w6) := HBR5.out.trans (hb6.mono HBR5.out.size)
   clear hop hokp hrp hb6 HA2 hs2 HRB5 HRR5 HBR5 HLR5 HOM
   cases okm with
   | false =>
     have hff : formedR L = false := by
      rw [HRF.out, ← HKM.out]
      simp
     have HDW2 : Hid (decW D = (2, zP)) := by show _ = _; rw [HDW.out, if_neg (by rw [hff]; simp)]
     have HZ : Hid ((w6.setRow g2 zX.L.toArray).heap[g2]? = some (.cells zX.L.toArray 31 (0, 0))) := setRow_heap _ _ _ _ _ _ HRR6.out
     have HBZ : Hid (Below w.heap.size w (w6.setRow g2 zX.L.toArray)) := below_setRow HBR6.out (by rw [HG2.out]; exact Nat.le_refl _) _
     have HR' := HRR6
     clear hff HDW
     go_wp2_with (first
      | (refine wpList_build_eq rfl 31 [] rfl [] rfl (.agg zX.L.toArray) (buildRc0 _) ?_)
      | (refine wpList_store_row rfl 31 _ _ rfl g2 zX.L.toArray rfl rfl 31 _ HR'.out (infoRcA zX) rfl (oneRc zX) ?_))
     refine bodyPost_ret (results_row_tmp rfl _ _ g2 31 _ (0, 0) _ rfl HZ.out Tryz.underlying31 rfl (infoRcA zX)) rfl ?_
     exact ⟨zX, by rw [HDW2.out]; rfl, zX_in _, by rw [HDW2.out]; rfl, HBZ.out⟩
   | true =>
   cases okp with
   | false =>
     have hff : formedR L = false := by
      rw [HRF.out, ← HKP.out]
      simp
     have HDW2 : Hid (decW D = (2, zP)) := by show _ = _; rw [HDW.out, if_neg (by rw [hff]; simp)]
     have HZ : Hid ((w6.setRow g2 zX.L.toArray).heap[g2]? = some (.cells zX.L.toArray 31 (0, 0))) := setRow_heap _ _ _ _ _ _ HRR6.out
     have HBZ : Hid (Below w.heap.size w (w6.setRow g2 zX.L.toArray)) := below_setRow HBR6.out (by rw [HG2.out]; exact Nat.le_refl _) _
     have HR' := HRR6
     clear hff HDW
     go_wp2_with (first
      | (refine wpList_build_eq rfl 31 [] rfl [] rfl (.agg zX.L.toArray) (buildRc0 _) ?_)
      | (refine wpList_store_row rfl 31 _ _ rfl g2 zX.L.toArray rfl rfl 31 _ HR'.out (infoRcA zX) rfl (oneRc zX) ?_))
     refine bodyPost_ret (results_row_tmp rfl _ _ g2 31 _ (0, 0) _ rfl HZ.out Tryz.underlying31 rfl (infoRcA zX)) rfl ?_
     exact ⟨zX, by rw [HDW2.out]; rfl, zX_in _, by rw [HDW2.out]; rfl, HBZ.out⟩
   | true =>
   by_cases hjl : j2 < n'
   ·have hd7 : decide ((j2 : Int) < (n' : Int)) = true := by simp; omega
    have hff : formedR L = false := by
     have hlz : decide ((F5 r).length = 0) = false := by
      rw [HE7.out, List.length_drop, wordsOf_length, ← HLL.out]
      exact decide_eq_false (by omega)
     rw [HRF.out, hlz]
     simp
    have HDW2 : Hid (decW D = (2, zP)) := by show _ = _; rw [HDW.out, if_neg (by rw [hff]; simp)]
    have HZ : Hid ((w6.setRow g2 zX.L.toArray).heap[g2]? = some (.cells zX.L.toArray 31 (0, 0))) := setRow_heap _ _ _ _ _ _ HRR6.out
    have HBZ : Hid (Below w.heap.size w (w6.setRow g2 zX.L.toArray)) := below_setRow HBR6.out (by rw [HG2.out]; exact Nat.le_refl _) _
    have HR' := HRR6
    clear hff HDW
    go_wp2_with (first
     | (refine wpList_build_eq rfl 31 [] rfl [] rfl (.agg zX.L.toArray) (buildRc0 _) ?_)
     | (refine wpList_store_row rfl 31 _ _ rfl g2 zX.L.toArray rfl rfl 31 _ HR'.out (infoRcA zX) rfl (oneRc zX) ?_))
    refine bodyPost_ret (results_row_tmp rfl _ _ g2 31 _ (0, 0) _ rfl HZ.out Tryz.underlying31 rfl (infoRcA zX)) rfl ?_
    exact ⟨zX, by rw [HDW2.out]; rfl, zX_in _, by rw [HDW2.out]; rfl, HBZ.out⟩
   have hd7 : decide ((j2 : Int) < (n' : Int)) = false := by simp; omega
   have HFO : Hid (formedR L = true) := by
    show _ = _
    rw [HRF.out, HAL3.out, ← HKM.out, ← HKP.out, HE7.out, List.length_drop, wordsOf_length, ← HLL.out]
    have : n' - j2 = 0 := by omega
    rw [this]; rfl
   obtain ⟨x3, hx3⟩ : ∃ x3 : Rc, x3 = ({ x1 with m1 := spm, mn := nm, mc := cm, m := lm, p1 := spp, pn := np, pc := cp, p := lp } : Rc) := ⟨_, rfl⟩
   have HX3 : Hid (x3.pl = recP L ∧ x3.c1 = slZ (some ⟨b3, off3, none⟩) 1 1 c1) := by
    rw [hx3]
    refine ⟨?_, HX1.out.2⟩
    rw [HRP.out HFO.out, HRM.out rfl, HRPP.out rfl]
    show ({ x1.pl with m := lm, p := lp } : Rp) = _
    rw [HX1.out.1]
    rfl
   have HRB7 := zh (HRB6.out.set 6 (.slice spm nm cm) { x1 with m1 := spm, mn := nm, mc := cm, m := lm } rfl ⟨rfl, rfl, rfl⟩ ⟨rfl, rfl, rfl, rfl⟩)
   have HRB8 := zh (HRB7.out.set 7 (.slice spp np cp) { x1 with m1 := spm, mn := nm, mc := cm, m := lm, p1 := spp, pn := np, pc := cp, p := lp } rfl ⟨rfl, rfl, rfl⟩ ⟨rfl, rfl, rfl, rfl⟩)
   rw [← hx3] at HRB8
   have cS6 := (HRB6.out.cell (j := 6) rfl).1
   have fS6 := (HRB6.out.cell (j := 6) rfl).2
   have cS7 := (HRB7.out.cell (j := 7) rfl).1
   have fS7 := (HRB7.out.cell (j := 7) rfl).2
   have HOM8 : Hid (OwnE ((w6.setCell ⟨gr, 6, none⟩ (.slice spm nm cm)).setCell ⟨gr, 7, none⟩ (.slice spp np cp)) B (.slice spm nm cm) lm) := ⟨own_setOther (own_setOther HOM6.out.1.1 HRB6.out.row (by decide)) HRB7.out.row (by decide), HOM6.out.1.2⟩
   have HOP8 : Hid (OwnE ((w6.setCell ⟨gr, 6, none⟩ (.slice spm nm cm)).setCell ⟨gr, 7, none⟩ (.slice spp np cp)) B (.slice spp np cp) lp) := ⟨own_setOther (own_setOther HOP.out.1.1 HRB6.out.row (by decide)) HRB7.out.row (by decide), HOP.out.1.2⟩
   have HRR8 : Hid (((w6.setCell ⟨gr, 6, none⟩ (.slice spm nm cm)).setCell ⟨gr, 7, none⟩ (.slice spp np cp)).heap[g2]? = some (.cells zX.L.toArray 31 (0, 0))) := (heap_setCell_other _ _ _ _ HGR.out).trans ((heap_setCell_other _ _ _ _ HGR.out).trans HRR6.out)
   have HBR8 : Hid (Below w.heap.size w ((w6.setCell ⟨gr, 6, none⟩ (.slice spm nm cm)).setCell ⟨gr, 7, none⟩ (.slice spp np cp))) := (HBR6.out.setCell (p := ⟨gr, 6, none⟩) (Nat.le_trans (by rw [HBE.out]; exact HWL.out) HRB6.out.lo) _).setCell (p := ⟨gr, 7, none⟩) (Nat.le_trans (by rw [HBE.out]; exact HWL.out) HRB6.out.lo) _
   have HNM : Hid (x3.m1 = spm ∧ x3.mn = nm ∧ x3.mc = cm ∧ x3.m = lm ∧ x3.p1 = spp ∧ x3.pn = np ∧ x3.pc = cp ∧ x3.p = lp) := by rw [hx3]; exact ⟨rfl, rfl, rfl, rfl, rfl, rfl, rfl, rfl⟩
   have HNL : Hid (lm.length = nm ∧ lp.length = np) := ⟨HOM6.out.2, HOP.out.2⟩
   clear hx3 HX1 HRM HRPP HKM HKP HRF HRP HAL3 HE4 HE6 HE7 HRB6 HRB7 HRR6 HBR6 HOM6 HOP HJ1 HJ2
   go_upto_region 25 with fail
   clear cS6 fS6 cS7 fS7 hjl
   generalize World.setCell (World.setCell w6 ⟨gr, 6, none⟩ (.slice spm nm cm)) ⟨gr, 7, none⟩ (.slice spp np cp) = w8 at *
   obtain ⟨m1, m2, m3, m4, m5, m6, m7, m8⟩ := HNM.out
   rw [← m1, ← m2, ← m3, ← m4] at HOM8
   rw [← m5, ← m6, ← m7, ← m8] at HOP8
   rw [← m2, ← m4, ← m6, ← m8] at HNL
   clear m1 m2 m3 m4 m5 m6 m7 m8 HNM
   have hBw8 : B ≤ w8.heap.size := Nat.le_of_lt (Nat.lt_of_le_of_lt HRB8.out.lo HRB8.out.lt)
   have HXI : Hid (RcIn x3 w8) := good_in HGQ.out HFO.out HX3.out.1 (.inr trivial) (HRB8.out.c.more hBw8) (rowsV_in HRB8.out.v.1 HRB8.out.v.2) (OwnE.ens HOM8.out HNL.out.1) (OwnE.ens HOP8.out HNL.out.2)
   have HVA := zh (rvalidR_any x3 w8 HXI.out)
   rw [rcB_pl, HX3.out.1] at HVA
   rw [if_pos HFO.out] at HDW
   clear hBw8 HGQ HFO
   go_wp2_with (refine wpList_load_row rfl 31 _ rfl gr rfl 31 _ (0, 0) _ HRB8.out.row Tryz.underlying31 rfl (infoRcA x3) ?_)
   refine HVA.out.mono ?_
   rintro e w9 ⟨rfl, hb9⟩
   have HR9 : Hid (w9.heap[g2]? = some (.cells zX.L.toArray 31 (0, 0))) := (hb9.block _ (Array.getElem?_eq_some_iff.1 HRR8.out).1).trans HRR8.out
   have HB9 : Hid (Below w.heap.size w w9) := HBR8.out.trans (hb9.mono HBR8.out.size)
   have HRB9 := zh (HRB8.out.below hb9)
   have HXI9 : Hid (RcIn x3 w9) := HXI.out.below hb9
   have HOM9 : Hid (OwnE w9 B (.slice x3.m1 x3.mn x3.mc) x3.m) := HOM8.out.below hb9
   have HOP9 : Hid (OwnE w9 B (.slice x3.p1 x3.pn x3.pc) x3.p) := HOP8.out.below hb9
   clear hb9 HVA HRR8 HBR8 HRB8 HXI HOM8 HOP8
   cases hbb2 : rpB (recP L) with
   | false =>
     have HDW2 : Hid (decW D = (1, zP)) := by show _ = _; rw [HDW.out, if_neg (by rw [hbb2]; simp)]
     have HZ : Hid ((w9.setRow g2 zX.L.toArray).heap[g2]? = some (.cells zX.L.toArray 31 (0, 0))) := setRow_heap _ _ _ _ _ _ HR9.out
     have HBZ : Hid (Below w.heap.size w (w9.setRow g2 zX.L.toArray)) := below_setRow HB9.out (by rw [HG2.out]; exact Nat.le_refl _) _
     clear HDW hbb2 HRB9 HXI9 HOM9 HOP9
     go_wp2_with (first
      | (refine wpList_build_eq rfl 31 [] rfl [] rfl (.agg zX.L.toArray) (buildRc0 _) ?_)
      | (refine wpList_store_row rfl 31 _ _ rfl g2 zX.L.toArray rfl rfl 31 _ HR9.out (infoRcA zX) rfl (oneRc zX) ?_))
     refine bodyPost_ret (results_row_tmp rfl _ _ g2 31 _ (0, 0) _ rfl HZ.out Tryz.underlying31 rfl (infoRcA zX)) rfl ?_
     exact ⟨zX, by rw [HDW2.out]; rfl, zX_in _, by rw [HDW2.out]; rfl, HBZ.out⟩
   | true =>
     have HDW2 : Hid (decW D = (0, recP L)) := by show _ = _; rw [HDW.out, if_pos hbb2]
     have HZ : Hid ((w9.setRow g2 x3.L.toArray).heap[g2]? = some (.cells x3.L.toArray 31 (0, 0))) := setRow_heap _ _ _ _ _ _ HR9.out
     have HBZ : Hid (Below w.heap.size w (w9.setRow g2 x3.L.toArray)) := below_setRow HB9.out (by rw [HG2.out]; exact Nat.le_refl _) _
     have HXZ : Hid (RcIn x3 (w9.setRow g2 x3.L.toArray)) := by
      have hlo : g2 + 1 ≤ B := HG2B.out
      refine RcIn.setRowZ HXI9.out (fun bk ok e => ?_) (own_lower HRB9.out.v.1 hlo) ⟨own_lower HOM9.out.1 hlo, HOM9.out.2⟩ ⟨own_lower HOP9.out.1 hlo, HOP9.out.2⟩ ⟨HRB9.out.v.2, HNL.out.1, HNL.out.2⟩ _
      rw [HX3.out.2] at e
      unfold slZ at e
      split at e
      ·injection e with e; injection e with e _ _; rw [← e]; exact HFQ.out
      ·simp [Addr.add] at e; rw [← e.1]; exact HFQ.out
     clear HDW hbb2 HXI9 HOM9 HOP9
     go_wp2_with (first
      | (refine wpList_load_row rfl 31 _ rfl gr rfl 31 _ (0, 0) _ HRB9.out.row Tryz.underlying31 rfl (infoRcA x3) ?_)
      | (refine wpList_store_row rfl 31 _ _ rfl g2 x3.L.toArray rfl rfl 31 _ HR9.out (infoRcA x3) rfl (oneRc x3) ?_))
     refine bodyPost_ret (results_row_tmp rfl _ _ g2 31 _ (0, 0) _ rfl HZ.out Tryz.underlying31 rfl (infoRcA x3)) rfl ?_
     exact ⟨x3, by rw [HDW2.out]; rfl, HXZ.out, by rw [HDW2.out]; exact HX3.out.1, HBZ.out⟩
end Go.Proofs.YtecllfbadciaoaaGreatDoor
