/-
  The walk of the reference's Lines (conditions: digests of 32 bytes, at most 100000 entries).
-/
import Derived.Test.YtecllfbadciaoaaDoorZip
import Derived.Test.YtecllfbadciaoaaDoorQ9
set_option maxRecDepth 100000
set_option maxHeartbeats 8000000
namespace Go.Proofs.YtecllfbadciaoaaDoor
open Go.RowKit
theorem refLines_any (tag : ByteArray) (sp : Option Addr) (n cap : Nat) (l : List En) (w : World) (hl : EnsIn w w.heap.size sp n cap l) (hn : n ≤ 100000) :
 Calls Tryd.prog 18 #[.string tag, .slice sp n cap] w fun e w' => ∃ sp' cap' ls, e = .returned (.slice sp' n cap') ∧ ls.length = n ∧ wordsOf ls = l.map (lineE tag) ∧ LnsOwn w' w.heap.size (.slice sp' n cap') ls ∧ Below w.heap.size w w' := by
 have HL := zh hl
 clear hl
 go_enter Tryd.func18, Tryd.ntmps18
 go_wp2_with fail
 go_loopw [5, 6] (fun v i wr => ∃ (k : Nat) (done : List Ln) (sp' : Option Addr) (cap' : Nat), k ≤ n ∧ i = .int .i64 k ∧ v = .slice sp' k cap' ∧ Hid (k = done.length) ∧ Hid (wordsOf done = (l.take k).map (lineE tag)) ∧ Hid (LnsOwn wr w.heap.size (.slice sp' k cap') done) ∧ Hid (Below w.heap.size w wr)) (fun _ i _ => n - (intOf i).toNat)
 case atStart => exact ⟨0, [], _, _, Nat.zero_le _, rfl, rfl, rfl, rfl, LnsOwn.nil _ _, Below.refl _ _⟩
 case round =>
  obtain ⟨k, done, sp', cap', hk, rfl, rfl, HKL, HWD, hown, hbe⟩ := hrel
  have hbs := hbe.out.size
  by_cases hlt : k < n
  ·have hd : decide ((k : Int) < (n : Int)) = true := by simp; omega
   obtain ⟨b, off, rfl, hbB, hcap, hr⟩ := HL.out.cells (by omega)
   have hkl : k < l.length := by rw [HL.out.len]; exact hlt
   obtain ⟨x, hx⟩ : ∃ x, l[k]? = some x := ⟨l[k], List.getElem?_eq_getElem hkl⟩
   have hok := HL.out.ok x (List.mem_of_getElem? hx)
   have HOK := zh hok
   have HFM : Hid (∀ W, Calls Tryd.prog 35 #[.agg (x.d.map (Value.int .u8)).toArray] W fun e w' => e = .returned (.string (fmtD x.d)) ∧ Below W.heap.size W w') := fun W => refFormat_any x.d W hok.1 hok.2
   have HT : Hid (∀ y : Ln, y.l = [tag, x.p, fmtD x.d] → wordsOf (done ++ [y]) = (l.take (k + 1)).map (lineE tag)) := by
    intro y hy
    rw [List.take_add_one, hx, List.map_append, ← HWD.out]
    simp [wordsOf, hy, lineE]
   have p1 : (0 : Int) ≤ (k : Int) := by omega
   have p2 : (k : Int) < (n : Int) := by omega
   have HRX := zh (fun W (hb : Below w.heap.size w W) => range_belowS (hr k x hx) hb hbB)
   have q1 : IntKind.i64.wrap (k : Int) = (k : Int) := IntWalk.i64_in _ (by omega)
   clear hr hx hkl hok
   go_wp2_with fail
   refine wp_region_held_drew (S := fun w' => w'.rangeAt b (off + k * 33) (enL x)) (by kernel_rfl) (HRX.out _ hbe.out.drew) (fun hHeld => ?_)
   refine zv 0 rfl ?_
   refine zv 1 rfl ?_
   refine zv 2 rfl ?_
   refine zv 3 rfl ?_
   refine zv 4 rfl ?_
   refine zv 5 rfl ?_
   refine zx 6 rfl (v := ?_) ?_ ?_; rotate_left
   ·intro w' hSw; have h1 := rngE_p hSw; go_simp; try with_reducible rfl
   refine zv 7 rfl ?_
   refine zv 8 rfl ?_
   refine zv 9 rfl ?_
   refine zv 10 rfl ?_
   refine' zk 11 rfl (v := _) (yieldsIf_load_mid (by rfl) _ _ rfl _ _ rfl _ _ ?hS11n19 Tryd.underlying44 rfl (info_d HOK.out)) ?rest11n19
   case hS11n19 =>
    intro w' hSw
    exact (rngE_d hSw)
   try simp only [Act.put, zA, zB, zC, zD, zY, zF]
   refine zr 12 rfl (fun K hK => ?_)
   go_simp
   with_reducible refine (HFM.out _).mono ?_
   rintro e w3 ⟨rfl, hb3⟩
   go_wp2_with fail
   refine hK.out _ _ (HRX.out _ (hbe.out.trans ((((Below.refl _ wr).drew).trans hb3).mono hbs))) fun _ => ?_; clear hK K
   try simp only [Act.put, zA, zB, zC, zD, zY, zF]
   have HB3 := zh (hbe.out.trans ((((Below.refl _ wr).drew).trans hb3).mono hbs))
   have HO3 := zh (hown.out.below (((Below.refl _ wr).drew).trans hb3))
   clear hb3
   refine zr 13 rfl (fun K hK => ?_)
   rw [if_pos (by rfl)]
   refine wp_slice_eqS 22 3 [(0, .tmp 14), (1, .tmp 19), (2, .tmp 25)] rfl [(0, .string tag), (1, .string x.p), (2, .string (fmtD x.d))] rfl _ _ (slice3 _ tag x.p (fmtD x.d)) ?_
   generalize hw4 : World.alloc w3 _ = w4
   have hq4 : LnOwnL w4 w.heap.size ⟨some ⟨w3.heap.size, 0, none⟩, 3, 3, [tag, x.p, fmtD x.d]⟩ := by rw [← hw4]; exact lnOwn_new3 w3 _ (by have := HB3.out.size; omega) _ _ _
   have hb4 : Below w3.heap.size w3 w4 := by rw [← hw4]; exact (Below.refl _ _).alloc (Nat.le_refl _) _
   have HQ4 := zh hq4
   have HB4 := zh (HB3.out.trans (hb4.mono HB3.out.size))
   have HO4 := zh (HO3.out.below hb4)
   clear hw4 hq4 hb4
   refine hK.out _ _ (HRX.out _ HB4.out) fun _ => ?_; clear hK K
   try simp only [Act.put, zA, zB, zC, zD, zY, zF]
   refine zr 14 rfl (fun K hK => ?_)
   rw [if_pos (by rfl)]
   refine wp_slice_eqS 50 1 [(0, .tmp 26)] rfl [(0, .slice (some ⟨w3.heap.size, 0, none⟩) 3 3)] rfl _ _ (slice1L _ _) ?_
   generalize hw5 : World.alloc w4 _ = w5
   have hc5 : w5.cell? ⟨w4.heap.size, 0, none⟩ = some (Ln.val ⟨some ⟨w3.heap.size, 0, none⟩, 3, 3, [tag, x.p, fmtD x.d]⟩) := by rw [← hw5, cell_of_row _ w4.heap.size 0 _ _ _ (heap_alloc_new w4 _)]; rfl
   have hb5 : Below w4.heap.size w4 w5 := by rw [← hw5]; exact (Below.refl _ _).alloc (Nat.le_refl _) _
   have HC5 := zh hc5
   have HB5 := zh (HB4.out.trans (hb5.mono HB4.out.size))
   have HO5 := zh (HO4.out.below hb5)
   have HQ5 : Hid (LnOwnL w5 w.heap.size ⟨some ⟨w3.heap.size, 0, none⟩, 3, 3, [tag, x.p, fmtD x.d]⟩) := own_belowL HQ4.out hb5
   have hs5 := HB5.out.size
   clear hw5 hc5 hb5
   refine hK.out _ _ (HRX.out _ HB5.out) fun _ => ?_; clear hK K
   try simp only [Act.put, zA, zB, zC, zD, zY, zF]
   refine zr 15 rfl (fun K hK => ?_)
   rw [if_pos (by rfl)]
   refine wp_append_lns (.tmp 13) (.tmp 27) rfl w.heap.size _ done k HKL.out rfl HO5.out w4.heap.size ⟨some ⟨w3.heap.size, 0, none⟩, 3, 3, [tag, x.p, fmtD x.d]⟩ rfl HC5.out HQ5.out (by omega) (by omega) ?_
   intro sp6 cap6 w6 HO6 HB6 HG6
   have HB7 := zh (HB5.out.trans HB6.out)
   refine hK.out _ _ (HRX.out _ HB7.out) fun _ => ?_; clear hK K
   try simp only [Act.put, zA, zB, zC, zD, zY, zF]
   refine zv 16 rfl ?_
   refine zd ?_ _
   clear hHeld
   go_wp2_with fail
   go_roundw
   case rel => exact ⟨k + 1, done ++ [⟨some ⟨w3.heap.size, 0, none⟩, 3, 3, [tag, x.p, fmtD x.d]⟩], sp6, cap6, by omega, by go_num, rfl, by show _ = _; rw [List.length_append, ← HKL.out]; rfl, HT.out _ rfl, HO6, HB7⟩
   case measure => simp [intOf]; omega
  ·obtain rfl : k = n := by omega
   have hd : decide ((k : Int) < (k : Int)) = false := by simp
   have HTT : Hid ((l.take k).map (lineE tag) = l.map (lineE tag)) := by show _ = _; rw [List.take_of_length_le (by rw [HL.out.len]; exact Nat.le_refl _)]
   go_wp2_with fail
   go_ret
   exact ⟨sp', cap', done, rfl, HKL.out.symm, by rw [← HTT.out]; exact HWD.out, hown.out, hbe.out⟩
theorem refPlain_any (c : Int) (w : World) :
 Calls Tryd.prog 55 #[.int .u8 c] w fun e w' => e = .returned (.bool (plnB c)) ∧ w = w' := by
 by_cases h1 : 33 ≤ c
 ·by_cases h2 : c ≤ 125
  ·go_enter Tryd.func55, Tryd.ntmps55
   go_wp2
   go_ret
   exact ⟨ret_bool (by unfold plnB; rw [decide_eq_true h1, decide_eq_true h2]; rfl), rfl⟩
  ·go_enter Tryd.func55, Tryd.ntmps55
   go_wp2
   go_ret
   exact ⟨ret_bool (by unfold plnB; rw [decide_eq_false (p := c ≤ _) (by omega)]; simp), rfl⟩
 ·go_enter Tryd.func55, Tryd.ntmps55
  go_wp2
  go_ret
  exact ⟨ret_bool (by unfold plnB; rw [decide_eq_false (p := _ ≤ c) (by omega)]; simp), rfl⟩
theorem refWord_any (s : ByteArray) (w : World) (hlen : 3 * s.size + 1 ≤ 1099511627776) :
 Calls Tryd.prog 36 #[.string s] w fun e w' => e = .returned (.string ⟨(wordL s.data.toList).toArray⟩) ∧ Below w.heap.size w w' := by
 obtain ⟨i0, hi0, hz0, hz1, hz2⟩ := info_parts Tryd.info5
 have HI0 := zh hi0; have HZ0 := zh hz0; have HZ1 := zh hz1; have HZ2 := zh hz2
 clear hi0 hz0 hz1 hz2
 by_cases h0 : s.size = 0
 ·have e0 : s.toList = [] := by rw [Lib.toList_data]; exact List.eq_nil_of_length_eq_zero (by rw [← Lib.size_eq]; exact h0)
  have HW := zh (show wordL s.data.toList = [126] by rw [← Lib.toList_data, e0]; rfl)
  generalize wordL s.data.toList = wl at *
  clear h0
  go_enter Tryd.func36, Tryd.ntmps36
  go_wp2_with fail
  go_ret
  exact ⟨by rw [HW.out]; rfl, Below.refl _ _⟩
 ·have e0 : s.toList.isEmpty = false := by
   rw [Lib.toList_data, List.isEmpty_eq_false_iff]
   intro h; rw [Lib.size_eq, h] at h0; simp at h0
  have HW := zh (show wordL s.data.toList = (s.data.toList.take s.size).flatMap encB by
   unfold wordL; rw [take_all_data, if_neg (by intro h; rw [Lib.size_eq, h] at h0; simp at h0)])
  generalize wordL s.data.toList = wl at *
  clear h0
  go_enter Tryd.func36, Tryd.ntmps36
  go_wp2_with fail
  go_loopw [4, 5] (fun b i wr => ∃ k : Nat, k ≤ s.size ∧ i = .int .i64 k ∧ Hid (wr.ownsRow w.heap.size 5 1 b ((s.data.toList.take k).flatMap encB).length (Lib.byteCells ((s.data.toList.take k).flatMap encB))) ∧ Below w.heap.size w wr) (fun _ i _ => s.size - (intOf i).toNat)
  case atStart => exact ⟨0, by omega, rfl, World.ownsRow_nil _ _ _ _, Below.refl _ _⟩
  case round =>
   obtain ⟨k, hk, rfl, hown, hbe⟩ := hrel
   by_cases hlt : k < s.size
   ·have HS := zh (flat_succ s k hlt)
    have hle := flat_le (s.data.toList.take k)
    have hle2 : (s.data.toList.take k).length ≤ k := List.length_take_le _ _
    have hbs := hbe.size
    generalize (s.data.toList.take k).flatMap encB = fl at *
    cases hp : plnB (s[k].toNat)
    ·have HK := zh (encB_esc hp)
     have HP := zh hp; clear hp
     have hc256 : s[k].toNat < 256 := UInt8.toNat_lt _
     have hx1 := hex_index (s[k].toNat / 16) (by omega)
     have hx2 := hex_index (s[k].toNat % 16) (by omega)
     rw [show ((s[k].toNat / 16 : Nat) : Int) = (s[k].toNat : Int) / 16 by omega] at hx1
     rw [show ((s[k].toNat % 16 : Nat) : Int) = (s[k].toNat : Int) % 16 by omega] at hx2
     have hand := and15 s[k]
     have hk0 : (0 : Int) ≤ (k : Int) := by omega
     have hk1 : (k : Int) < (s.size : Int) := by omega
     go_wp2_with (go_at_call 55; refine (refPlain_any _ _).mono ?_; rintro e w' ⟨rfl, rfl⟩; rw [HP.out])
     go_region_held3 (fun _ => True) (trivial) ((refine step_append_own rfl (.tmp 24) (.tmp 37) 30 (by rfl) w.heap.size 5 i0 (.int .u8 0) 1 1 Tryd.underlying30 HI0.out HZ0.out HZ1.out HZ2.out rfl (by decide) _ _ _ (by rfl) (by exact (hown.out.alloc _).drew) ⟨wr.heap.size, 0, none⟩ 3 3 (Lib.byteCells [37, hexU (s[k].toNat / 16), hexU (s[k].toNat % 16)]) (by rfl) (by rfl) (by exact cells_newD _ _ _) (Lib.byteCells_one _) (by unfold maxLen; omega) (by omega) (by simp; omega) ?_; intro v' w1 hown1 hg1 _; have HO1 := zh hown1; clear hown1))
     all_goals
      go_wp2
      go_roundw
      case rel =>
       refine ⟨k + 1, by omega, by go_num, ?_, ?_⟩
       ·rw [HS.out, HK.out]
        have := HO1.out
        show World.ownsRow _ _ _ _ _ _ _
        simpa [Lib.byteCells_append, Lib.byteCells, Nat.add_assoc] using this
       ·exact ((hbe.alloc hbs _).drew).grown hg1 (by simp; omega) (own_base hown.out)
      case measure => simp [intOf]; omega
    ·have HK := zh (encB_plain hp)
     have HP := zh hp; clear hp
     go_wp2_with (first
      | (go_at_call 55; refine (refPlain_any _ _).mono ?_; rintro e w' ⟨rfl, rfl⟩; rw [HP.out])
      | (at_builtin; refine wpList_append_own _ rfl (.tmp 18) (.tmp 22) 30 rfl w.heap.size 5 i0 (.int .u8 0) 1 1 Tryd.underlying30 HI0.out HZ0.out HZ1.out HZ2.out rfl (by decide) _ _ _ rfl (hown.out.alloc _) ⟨wr.heap.size, 0, none⟩ 1 1 [.int .u8 (s[k].toNat : Int)] rfl rfl (cell_one_new _ _ _) (by intro u hu; simp at hu; subst hu; rfl) (by unfold maxLen; omega) (by omega) (by simp; omega) ?_; intro v' w1 hown1 hg1 _; have HO1 := zh hown1; clear hown1))
     go_roundw
     case rel =>
      refine ⟨k + 1, by omega, by go_num, ?_, ?_⟩
      ·rw [HS.out, HK.out]
       have := HO1.out
       show World.ownsRow _ _ _ _ _ _ _
       simpa [Lib.byteCells_append, Lib.byteCells, Nat.add_assoc] using this
      ·exact (hbe.alloc hbs _).grown hg1 (by simp; omega) (own_base hown.out)
     case measure => simp [intOf]; omega
   ·obtain rfl : k = s.size := by omega
    have hcv := run_string_own hown.out
    rw [← HW.out] at hcv
    go_wp2
    go_ret
    exact ⟨rfl, hbe⟩
def jn (l : List ByteArray) (j : Nat) : List UInt8 := (body (l.take j)).dropLast
theorem jn_zero (l : List ByteArray) : jn l 0 = [] := rfl
theorem jn_first {l : List ByteArray} (h : 0 < l.length) : jn l 1 = wordL l[0].data.toList := by
 unfold jn; rw [body_succ l 0 h]; simp [body]
theorem jn_next {l : List ByteArray} {j : Nat} (h0 : j ≠ 0) (hj : j < l.length) : jn l (j + 1) = (jn l j ++ [32]) ++ wordL l[j].data.toList := by
 have hp : 0 < (l.take j).length := by rw [List.length_take]; omega
 unfold jn
 rw [body_succ l j hj, ← body_last hp, ← List.append_assoc, List.dropLast_concat]
theorem body_le {l : List ByteArray} (hs : ∀ s ∈ l, s.size ≤ 32768) : (body l).length ≤ 98306 * l.length := by
 induction l with
 | nil => simp [body]
 | cons a t ih =>
   have h1 := ih (fun s hs' => hs s (List.mem_cons_of_mem _ hs'))
   have h2 := hs a (List.mem_cons_self ..)
   have h3 := wordL_le a.data.toList
   rw [← Lib.size_eq] at h3
   unfold body at h1 ⊢
   simp only [List.flatMap_cons, List.length_append, List.length_cons, List.length_nil]
   omega
theorem jn_le (l : List ByteArray) (j : Nat) (hs : ∀ s ∈ l.take j, s.size ≤ 32768) : (jn l j).length ≤ 98306 * j := by
 have h1 := body_le hs
 have h2 : (l.take j).length ≤ j := List.length_take_le _ _
 unfold jn; rw [List.length_dropLast]; omega
theorem not_lng {l : List ByteArray} (h : l.any lng = false) : ∀ s ∈ l, s.size ≤ 32768 := fun s hs => by
 rcases Nat.lt_or_ge 32768 s.size with hlt | hge
 ·have : l.any lng = true := List.any_eq_true.2 ⟨s, hs, by unfold lng; exact decide_eq_true hlt⟩
  rw [h] at this; cases this
 ·exact hge
theorem lineL_jn {l : List ByteArray} : lineL l = jn l l.length ++ [10] := by
 unfold lineL jn; rw [List.take_of_length_le (Nat.le_refl _)]
theorem chk_of_bad {wl : List (List ByteArray)} {r : Nat} (h : wl.length ≤ 1000) (hb : firstBad wl = r) : chk wl = r := by unfold chk; rw [if_neg (by omega), hb]
theorem firstBad_step {wl : List (List ByteArray)} {k : Nat} {l : List ByteArray} (hk : wl[k]? = some l) (h : firstBad (wl.take k) = 0) :
 (chkLine l = 0 → firstBad (wl.take (k + 1)) = 0) ∧ (chkLine l ≠ 0 → firstBad wl = chkLine l) := by
 obtain ⟨hlt, rfl⟩ := List.getElem?_eq_some_iff.1 hk
 exact firstBad_take wl k hlt h
theorem grown_of_below2 {w w' : World} {row : Option Nat} (h : Below w.heap.size w w') : w.grownBy w' row := ⟨h.os, h.tape, h.output, h.size, fun k hk _ => h.block k hk⟩
theorem own_below {w w' : World} {base e size : Nat} {v : Value} {n : Nat} {xs : List Value} (h : w.ownsRow base e size v n xs) (hb : Below w.heap.size w w') : w'.ownsRow base e size v n xs :=
 h.kept (row := none) (grown_of_below2 hb) (by cases hv : v.ownBlock <;> simp)
theorem refEncode_any (pa : Option Addr) (np ncap : Nat) (ls : List Ln) (w : World) (hp : LinesIn w w.heap.size pa np ls) (hmax : np ≤ 9223372036854775807) (hmax2 : ∀ q ∈ ls, q.n ≤ 9223372036854775807) :
 Calls Tryd.prog 19 #[.slice pa np ncap] w (EncRes w (wordsOf ls)) := by
 have HP := zh hp; have HM := zh hmax2; clear hp hmax2
 obtain ⟨i0, hi0, hz0, hz1, hz2⟩ := info_parts Tryd.info5
 have HI0 := zh hi0; have HZ0 := zh hz0; have HZ1 := zh hz1; have HZ2 := zh hz2
 clear hi0 hz0 hz1 hz2
 have HLEN := zh HP.out.len
 have HL2 := zh (wordsOf_length ls)
 have HGET := zh (wordsOf_get? ls)
 generalize hwl : wordsOf ls = wl at *
 clear hwl
 by_cases hbig : 1000 < np
 ·have HE : Hid (enc wl = (3, [])) := by
   have hc : chk wl = 3 := by unfold chk; rw [if_pos (by rw [HL2.out, HLEN.out]; exact hbig)]
   show _ = _; rw [enc_bad (by rw [hc]; decide), hc]
  go_enter Tryd.func19, Tryd.ntmps19
  go_wp2_with fail
  go_ret2
  exact ⟨.slice none 0 0, by rw [HE.out]; rfl, by rw [HE.out]; exact World.ownsRow_nil _ _ _ _, Below.refl _ _⟩
 ·have HW1 : Hid (wl.length ≤ 1000) := by show _ ≤ _; rw [HL2.out, HLEN.out]; omega
  go_enter Tryd.func19, Tryd.ntmps19
  go_wp2_with fail
  go_loopg [4, 5] np (fun g b i wx => ∃ k : Nat, k + g = np ∧ i = .int .i64 k ∧ Hid (firstBad (wl.take k) = 0) ∧ ∃ sp cap, b = .slice sp (encL (wl.take k)).length cap ∧ Hid (wx.ownsRow w.heap.size 5 1 (.slice sp (encL (wl.take k)).length cap) (encL (wl.take k)).length (Lib.byteCells (encL (wl.take k)))) ∧ (encL (wl.take k)).length ≤ 16777216 * k ∧ Below w.heap.size w wx)
  case atStart => exact ⟨0, by omega, rfl, by show _ = _; simp [firstBad], none, 0, by simp [encL], by show World.ownsRow _ _ _ _ _ _ _; simp [encL]; exact World.ownsRow_nil _ _ _ _, by simp [encL], Below.refl _ _⟩
  case round =>
   obtain ⟨k, hg, rfl, HB, sp, cap, rfl, hown, hle, hbe⟩ := hrel
   have hbs := hbe.size
   by_cases hlt : k < np
   ·have hk2 : k < ls.length := by have := HLEN.out; omega
    obtain ⟨pb, po, rfl, hpb, hcell⟩ := HP.out.cells (by omega)
    have HC : Hid (w.cell? ⟨pb, po + k, none⟩ = some (.slice ls[k].sp ls[k].n ls[k].cap)) := hcell k hk2
    have HE := zh (HP.out.each _ (List.getElem_mem hk2))
    have HLK := zh (HGET.out k hk2)
    have hmx := HM.out _ (List.getElem_mem hk2)
    clear hcell
    generalize ls[k].sp = lsp at *
    generalize ls[k].n = n at *
    generalize ls[k].cap = lcap at *
    generalize ls[k].l = l at *
    obtain rfl := HE.out.len
    have HNX := zh (encL_next HLK.out)
    have HST := zh (firstBad_step HLK.out HB.out)
    have ck : wr.cell? ⟨pb, po + k, none⟩ = some (.slice lsp l.length lcap) := (hbe.cell (p := ⟨pb, po + k, none⟩) hpb).trans HC.out
    by_cases h0 : l.length = 0
    ·have h0b : ((l.length : Int) == 0) = true := beq_iff_eq.2 (by omega)
     have HEN : Hid (enc wl = (1, [])) := by
      have hc := chk_of_bad HW1.out (HST.out.2 (by rw [chkLine_zero h0]; decide))
      rw [chkLine_zero h0] at hc
      show _ = _; rw [enc_bad (by rw [hc]; decide), hc]
     have H0 := zh h0; clear h0
     generalize encL (wl.take k) = X at *
     go_wp2_with fail
     go_ret2
     exact ⟨.slice none 0 0, by rw [HEN.out]; rfl, by rw [HEN.out]; exact World.ownsRow_nil _ _ _ _, hbe⟩
    ·have h0b : ((l.length : Int) == 0) = false := beq_eq_false_iff_ne.2 (by omega)
     by_cases h1 : 120 < l.length
     ·have HEN : Hid (enc wl = (3, [])) := by
       have hc := chk_of_bad HW1.out (HST.out.2 (by rw [chkLine_wide h1]; decide))
       rw [chkLine_wide h1] at hc
       show _ = _; rw [enc_bad (by rw [hc]; decide), hc]
      generalize encL (wl.take k) = X at *
      clear h0
      go_wp2_with fail
      go_ret2
      exact ⟨.slice none 0 0, by rw [HEN.out]; rfl, by rw [HEN.out]; exact World.ownsRow_nil _ _ _ _, hbe⟩
     ·have hLJ := lineL_jn (l := l)
      have HLJ := zh hLJ; clear hLJ
      generalize encL (wl.take k) = X at *
      go_wp2_with fail
      go_loopg [4, 6] l.length (fun g b i wy => ∃ j : Nat, j + g = l.length ∧ i = .int .i64 j ∧ Hid ((l.take j).any lng = false) ∧ ∃ sp cap, b = .slice sp (X ++ jn l j).length cap ∧ Hid (wy.ownsRow w.heap.size 5 1 (.slice sp (X ++ jn l j).length cap) (X ++ jn l j).length (Lib.byteCells (X ++ jn l j))) ∧ Below w.heap.size w wy)
      case atStart => exact ⟨0, by omega, rfl, by show _ = _; simp, sp, cap, by simp [jn_zero], by show World.ownsRow _ _ _ _ _ _ _; simpa [jn_zero] using hown.out, hbe⟩
      case round =>
       clear hown hbe ck hbs
       obtain ⟨j, hg2, rfl, HA, sp2, cap2, rfl, hown, hbe⟩ := hrel
       have hbs := hbe.size
       have ck : wr.cell? ⟨pb, po + k, none⟩ = some (.slice lsp l.length lcap) := (hbe.cell (p := ⟨pb, po + k, none⟩) hpb).trans HC.out
       have hjl := jn_le l j (not_lng HA.out)
       by_cases hj : j < l.length
       ·obtain ⟨sb, so, rfl, hsb, hsc⟩ := HE.out.cells (by omega)
        have HCW : Hid (w.cell? ⟨sb, so + j, none⟩ = some (.string l[j])) := hsc j hj
        have cw : wr.cell? ⟨sb, so + j, none⟩ = some (.string l[j]) := (hbe.cell (p := ⟨sb, so + j, none⟩) hsb).trans HCW.out
        clear hsc
        by_cases hw : 32768 < (l[j]).size
        ·have HEN : Hid (enc wl = (3, [])) := by
          have hb := chkLine_long h0 (any_of l j hj (by unfold lng; exact decide_eq_true hw))
          have hc := chk_of_bad HW1.out (HST.out.2 (by rw [hb]; decide))
          rw [hb] at hc
          show _ = _; rw [enc_bad (by rw [hc]; decide), hc]
         generalize l[j] = s at *
         have hd1 : decide ((s.size : Int) > 32768) = true := decide_eq_true (by omega)
         have hd2 : decide (32768 < (s.size : Int)) = true := decide_eq_true (by omega)
         clear h0 hjl
         go_wp2_with fail
         go_ret2
         exact ⟨.slice none 0 0, by rw [HEN.out]; rfl, by rw [HEN.out]; exact World.ownsRow_nil _ _ _ _, hbe⟩
        ·have HA2 := zh (any_take_succ l j hj HA.out (by unfold lng; exact decide_eq_false hw))
         by_cases hj0 : j = 0
         ·have HJ : Hid (X ++ jn l (j + 1) = (X ++ jn l j) ++ wordL l[j].data.toList) := by
           subst hj0
           show _ = _; rw [jn_first hj, jn_zero, List.append_nil]
          have hj0' : ¬ ((0 : Int) < (j : Int)) := by omega
          generalize l[j] = s at *
          have hwl := wordL_le s.data.toList
          rw [← Lib.size_eq] at hwl
          have hy : (X ++ jn l j).length ≤ 17000000000 := by rw [List.length_append]; omega
          have HRW := fun w => zh (refWord_any s w (by omega))
          generalize hS : wordL s.data.toList = S at *
          have HS := zh (show (⟨S.toArray⟩ : ByteArray).size = S.length from rfl)
          have HSD := zh (show Lib.strCells ⟨S.toArray⟩ = Lib.byteCells S from rfl)
          generalize (⟨S.toArray⟩ : ByteArray) = sS at *
          have hsz : sS.size ≤ 98305 := by rw [HS.out]; omega
          have hd1 : decide ((s.size : Int) > 32768) = false := decide_eq_false (by omega)
          have hd2 : decide (32768 < (s.size : Int)) = false := decide_eq_false (by omega)
          generalize X ++ jn l j = Y at *
          clear h0 hjl hS hj0
          go_wp2_with (first
           | (go_at_call 36; refine (HRW _).out.mono ?_; rintro e w4 ⟨rfl, hbe4⟩; have hbs4 := hbe4.size; have hown4 := own_below hown.out hbe4)
           | (at_builtin; refine Lib.wpList_append_own_string _ rfl (.tmp 51) (.tmp 59) 30 9 rfl w.heap.size 5 i0 Tryd.underlying30 Tryd.underlying9 HI0.out HZ0.out HZ1.out HZ2.out _ _ _ rfl hown4 _ rfl (by unfold maxLen; omega) (by omega) (by omega) ?_; intro v5 w5 hown5 hg5 _; obtain ⟨sp5, cap5, rfl⟩ := own_shape hown5; have HO5 := zh hown5; clear hown5))
          go_roundg (l.length - (j + 1))
          case measure => omega
          case rel =>
           refine ⟨j + 1, by omega, by go_num, HA2.out, sp5, cap5, ?_, ?_, (hbe.trans (hbe4.mono hbs)).grown hg5 (by omega) (own_base hown4)⟩
           ·rw [HJ.out, List.length_append, ← HS.out]
           ·rw [HJ.out]
            have := HO5.out
            rw [HSD.out, ← Lib.byteCells_append] at this
            show World.ownsRow _ _ _ _ _ _ _
            rw [List.length_append, ← HS.out]; exact this
         ·have HJ : Hid (X ++ jn l (j + 1) = ((X ++ jn l j) ++ [32]) ++ wordL l[j].data.toList) := by show _ = _; rw [jn_next hj0 hj]; simp
          have hj0' : (0 : Int) < (j : Int) := by omega
          generalize l[j] = s at *
          have hwl := wordL_le s.data.toList
          rw [← Lib.size_eq] at hwl
          have hy : (X ++ jn l j).length ≤ 17000000000 := by rw [List.length_append]; omega
          have HRW := fun w => zh (refWord_any s w (by omega))
          generalize hS : wordL s.data.toList = S at *
          have HS := zh (show (⟨S.toArray⟩ : ByteArray).size = S.length from rfl)
          have HSD := zh (show Lib.strCells ⟨S.toArray⟩ = Lib.byteCells S from rfl)
          generalize (⟨S.toArray⟩ : ByteArray) = sS at *
          have hsz : sS.size ≤ 98305 := by rw [HS.out]; omega
          have hd1 : decide ((s.size : Int) > 32768) = false := decide_eq_false (by omega)
          have hd2 : decide (32768 < (s.size : Int)) = false := decide_eq_false (by omega)
          generalize X ++ jn l j = Y at *
          clear h0 hjl hS hj0
          go_wp2_with (first
           | (at_builtin; refine wpList_append_own _ rfl (.tmp 48) (.tmp 49) 30 rfl w.heap.size 5 i0 (.int .u8 0) 1 1 Tryd.underlying30 HI0.out HZ0.out HZ1.out HZ2.out rfl (by decide) _ _ _ rfl (hown.out.alloc _) ⟨wr.heap.size, 0, none⟩ 1 1 [.int .u8 32] rfl rfl (cell_one_new _ _ _) (by intro u hu; simp at hu; subst hu; rfl) (by unfold maxLen; omega) (by omega) (by simp; omega) ?_; intro v3 w3 hown3 hg3 _; have HO3 := zh hown3; clear hown3; have hbe3 := (hbe.alloc hbs _).grown hg3 (by simp; omega) (own_base hown.out); have hbs3 := hbe3.size; have ck3 := (hbe3.cell (p := ⟨pb, po + k, none⟩) hpb).trans HC.out; have cw3 := (hbe3.cell (p := ⟨sb, so + j, none⟩) hsb).trans HCW.out)
           | (go_at_call 36; refine (HRW _).out.mono ?_; rintro e w4 ⟨rfl, hbe4⟩; have hbs4 := hbe4.size; have hown4 := own_below HO3.out hbe4)
           | (at_builtin; refine Lib.wpList_append_own_string _ rfl (.tmp 51) (.tmp 59) 30 9 rfl w.heap.size 5 i0 Tryd.underlying30 Tryd.underlying9 HI0.out HZ0.out HZ1.out HZ2.out _ _ _ rfl hown4 _ rfl (by unfold maxLen; omega) (by omega) (by omega) ?_; intro v5 w5 hown5 hg5 _; obtain ⟨sp5, cap5, rfl⟩ := own_shape hown5; have HO5 := zh hown5; clear hown5))
          go_roundg (l.length - (j + 1))
          case measure => omega
          case rel =>
           refine ⟨j + 1, by omega, by go_num, HA2.out, sp5, cap5, ?_, ?_, (hbe3.trans (hbe4.mono hbs3)).grown hg5 (by omega) (own_base hown4)⟩
           ·rw [HJ.out, List.length_append, List.length_append, ← HS.out]; rfl
           ·rw [HJ.out]
            have := HO5.out
            rw [HSD.out] at this
            show World.ownsRow _ _ _ _ _ _ _
            rw [List.length_append, List.length_append, ← HS.out, Lib.byteCells_append, Lib.byteCells_append]; exact this
       ·obtain rfl : j = l.length := by omega
        have HFB : Hid (firstBad (wl.take (k + 1)) = 0) := by
         have ha := HA.out
         rw [List.take_of_length_le (Nat.le_refl _)] at ha
         exact HST.out.1 (chkLine_good h0 h1 ha)
        have hy : (X ++ jn l l.length).length ≤ 17000000000 := by rw [List.length_append]; omega
        have hyl : (X ++ jn l l.length).length + 1 ≤ 16777216 * (k + 1) := by rw [List.length_append]; omega
        have HEX : Hid (encL (wl.take (k + 1)) = (X ++ jn l l.length) ++ [10]) := by show _ = _; rw [HNX.out, HLJ.out, List.append_assoc]
        generalize X ++ jn l l.length = Y at *
        clear h0 hjl
        go_wp2_with (at_builtin; refine wpList_append_own _ rfl (.tmp 61) (.tmp 62) 30 rfl w.heap.size 5 i0 (.int .u8 0) 1 1 Tryd.underlying30 HI0.out HZ0.out HZ1.out HZ2.out rfl (by decide) _ _ _ rfl (hown.out.alloc _) ⟨wr.heap.size, 0, none⟩ 1 1 [.int .u8 10] rfl rfl (cell_one_new _ _ _) (by intro u hu; simp at hu; subst hu; rfl) (by unfold maxLen; omega) (by omega) (by simp; omega) ?_; intro v3 w3 hown3 hg3 _; obtain ⟨sp3, cap3, rfl⟩ := own_shape hown3; have HO3 := zh hown3; clear hown3)
        go_roundg (np - (k + 1))
        case measure => omega
        case rel =>
         refine ⟨k + 1, by omega, by go_num, HFB.out, sp3, cap3, ?_, ?_, ?_, (hbe.alloc hbs _).grown hg3 (by simp; omega) (own_base hown.out)⟩
         ·rw [HEX.out]; simp
         ·rw [HEX.out]
          have := HO3.out
          show World.ownsRow _ _ _ _ _ _ _
          simpa [Lib.byteCells_append, Lib.byteCells] using this
         ·rw [HEX.out, List.length_append]; exact hyl
   ·obtain rfl : k = np := by omega
    have hall : wl.take k = wl := List.take_of_length_le (by rw [HL2.out, HLEN.out]; exact Nat.le_refl _)
    have HCK : Hid (chk wl = 0) := chk_of_bad HW1.out (by rw [← hall]; exact HB.out)
    rw [hall] at hown hle
    rw [hall]
    clear hall HB
    by_cases hlong : 262144 < (encL wl).length
    ·have HE := zh (enc_much HCK.out hlong)
     have HHL := zh hlong
     obtain ⟨X, hX⟩ : ∃ X, encL wl = X := ⟨_, rfl⟩
     rw [hX] at hown hle hlong
     rw [hX]
     clear hX
     have hd1 : decide ((X.length : Int) > 262144) = true := decide_eq_true (by omega)
     have hd2 : decide (262144 < (X.length : Int)) = true := decide_eq_true (by omega)
     clear hlong hle
     go_wp2_with fail
     go_ret2
     exact ⟨.slice none 0 0, by rw [HE.out]; rfl, by rw [HE.out]; exact World.ownsRow_nil _ _ _ _, hbe⟩
    ·have HE := zh (enc_good HCK.out hlong)
     obtain ⟨X, hX⟩ : ∃ X, encL wl = X := ⟨_, rfl⟩
     rw [hX] at hown hle hlong HE
     rw [hX]
     clear hX
     have hd1 : decide ((X.length : Int) > 262144) = false := decide_eq_false (by omega)
     have hd2 : decide (262144 < (X.length : Int)) = false := decide_eq_false (by omega)
     clear hlong hle
     go_wp2_with fail
     go_ret2
     exact ⟨_, by rw [HE.out]; rfl, by rw [HE.out]; exact hown, hbe⟩
theorem cat_ret (P S : ByteArray) : P ++ S = ⟨(P.data.toList ++ S.data.toList).toArray⟩ := by
 apply ByteArray.ext; simp
def dz (u : Nat) : List UInt8 := if u = 0 then [] else Lib.decDigits u
theorem dzN_step (u : Nat) (h : 0 < u) : dz u = dz (u / 10) ++ [UInt8.ofNat (48 + u % 10)] := by
 unfold dz
 rw [if_neg (by omega)]
 by_cases h10 : u < 10
 ·rw [Lib.decDigits_one h10, if_pos (by omega), show u % 10 = u by omega]; rfl
 ·rw [dec_step u h10, if_neg (by omega)]
theorem refNumber_any (n : Int) (h0 : -9223372036854775808 ≤ n) (h1 : n ≤ 9223372036854775807) (w : World) :
 Calls Tryd.prog 17 #[.int .i64 n] w fun e w' => e = .returned (.string ⟨(Lib.itoa n).toArray⟩) ∧ Below w.heap.size w w' := by
 by_cases hz : n = 0
 ·subst hz
  have HI : Hid ((Lib.itoa 0) = [48]) := by show _ = _; rw [show (0 : Int) = ((0 : Nat) : Int) from rfl, Lib.itoa_nonneg, Lib.decDigits_one (by omega)]; rfl
  go_enter Tryd.func17, Tryd.ntmps17
  go_wp2_with fail
  go_ret
  exact ⟨by rw [HI.out]; rfl, Below.refl _ _⟩
 ·have e0 : (n == 0) = false := by simpa using hz
  have hcs : ∃ u : Nat, u < 18446744073709551616 ∧ 0 < u ∧ ((decide (n < 0) = true ∧ IntKind.u64.wrap (-IntKind.u64.wrap n) = (u : Int) ∧ Lib.itoa n = 45 :: dz u) ∨ (decide (n < 0) = false ∧ n = (u : Int) ∧ Lib.itoa n = dz u)) := by
   by_cases hneg : n < 0
   ·refine ⟨n.natAbs, by omega, by omega, .inl ⟨by simpa using hneg, ?_, ?_⟩⟩
    ·show (-(n % 18446744073709551616)) % 18446744073709551616 = _; omega
    ·unfold Lib.itoa dz; rw [if_pos hneg, if_neg (by omega)]
   ·refine ⟨n.toNat, by omega, by omega, .inr ⟨by simp; omega, by omega, ?_⟩⟩
    unfold Lib.itoa dz; rw [if_neg hneg, if_neg (by omega)]
  obtain ⟨u0, hu, hu0, hcs⟩ := hcs
  clear h0 h1 hz
  have HST : Hid (∀ (wr : World) (c : UInt8), (convert 30 9 (.slice (some ⟨wr.heap.size, 0, none⟩) 1 1)).run Tryd.prog (wr.alloc (.cells #[.int .u8 (c.toNat : Int)] 5)) = .ok (.string ⟨#[c]⟩) (wr.alloc (.cells #[.int .u8 (c.toNat : Int)] 5))) := fun wr c => by
   refine run_convert_bytes_back _ 30 9 5 _ 1 [c] Tryd.underlying30 Tryd.underlying5 Tryd.underlying9 (fun j hj => ?_)
   have hj0 : j = 0 := by simp at hj; omega
   subst hj0
   rw [Addr.add_mid, cell_of_row _ wr.heap.size (0 + 0) _ _ (0, 0) (heap_alloc_new wr _)]; rfl
  rcases hcs with ⟨hd, hq, hi⟩ | ⟨hd, hq, hi⟩
  focus
   have HI := zh hi
   clear hi
   go_enter Tryd.func17, Tryd.ntmps17
   go_wp2_with fail
  rotate_left
  focus
   have HI := zh hi
   have HQ := zh hq
   clear hi
   subst hq
   go_enter Tryd.func17, Tryd.ntmps17
   go_wp2_with fail
  all_goals
   go_loopw [4, 5] (fun a b wr => ∃ (u : Nat) (S : ByteArray), a = .int .u64 u ∧ b = .string S ∧ S.size ≤ 20 ∧ u < 18446744073709551616 ∧ Hid (u < 10 ^ (20 - S.size)) ∧ Hid (dz u ++ S.data.toList = dz u0) ∧ Hid (Below w.heap.size w wr)) (fun a _ _ => (intOf a).toNat)
   case atStart => exact ⟨u0, ⟨#[]⟩, rfl, rfl, by show 0 ≤ 20; omega, hu, by show u0 < 10 ^ 20; omega, by show _ = _; simp, Below.refl _ _⟩
   case round =>
    obtain ⟨u, S, rfl, rfl, hS, hu2, HP, HD, hbe⟩ := hrel
    have hbs := hbe.out.size
    by_cases hlt : 0 < u
    ·have hd2 : decide ((u : Int) > 0) = true := by simp; omega
     obtain ⟨c, hc⟩ : ∃ c : UInt8, c = UInt8.ofNat (48 + u % 10) := ⟨_, rfl⟩
     have hcn : c.toNat = 48 + u % 10 := by rw [hc, ofNat_toNat8 _ (by omega)]
     have q1 : 48 + (u : Int) % 10 = (c.toNat : Int) := by omega
     have q1' : 48 + Int.tmod (u : Int) 10 = (c.toNat : Int) := by rw [Int.tmod_eq_emod_of_nonneg (by omega)]; omega
     obtain ⟨v, hv⟩ : ∃ v, u / 10 = v := ⟨_, rfl⟩
     have q2 : (u : Int) / 10 = (v : Int) := by omega
     have q2' : Int.tdiv (u : Int) 10 = (v : Int) := by rw [Int.tdiv_eq_ediv_of_nonneg (by omega)]; omega
     have q3 : (c.toNat : Int) % 256 = (c.toNat : Int) := by omega
     have hrun := HST.out wr c
     have hS2 : S.size < 20 := by
      rcases Nat.lt_or_ge S.size 20 with h | h
      ·exact h
      ·have := HP.out
       rw [show 20 - S.size = 0 by omega] at this
       omega
     have HD2 : Hid (dz v ++ ((⟨#[c]⟩ : ByteArray) ++ S).data.toList = dz u0) := by
      show _ = _
      rw [← HD.out, dzN_step u hlt, ← hc, hv, List.append_assoc]
      congr 1
     have HP2 : Hid (v < 10 ^ (20 - (S.size + 1))) := by
      show _ < _
      have h1 := HP.out
      rw [show 20 - S.size = (20 - (S.size + 1)) + 1 by omega, Nat.pow_succ] at h1
      omega
     have hcat : (1 : Int) + (S.size : Int) ≤ 9223372036854775807 := by omega
     have hv2 : v < u := by omega
     clear hc hcn hv
     go_wp2_with fail
     go_roundw
     case rel =>
      have hsz : ((⟨#[c]⟩ : ByteArray) ++ S).size = S.size + 1 := by rw [ByteArray.size_append]; show 1 + S.size = _; omega
      refine ⟨v, (⟨#[c]⟩ : ByteArray) ++ S, rfl, rfl, by rw [hsz]; omega, by omega, ?_, HD2, hbe.out.alloc hbs _⟩
      rw [hsz]; exact HP2
     case measure => simp [intOf]; omega
    ·obtain rfl : u = 0 := by omega
     have hd2 : decide (((0 : Nat) : Int) > 0) = false := by decide
     have HF : Hid (S.data.toList = dz u0) := HD.out
     have hcat : (1 : Int) + (S.size : Int) ≤ 9223372036854775807 := by omega
     clear HST
     go_wp2_with fail
     go_ret
     refine ⟨?_, hbe.out⟩
     rw [HI.out, ← HF.out]
     show Ending.returned (.string (_ ++ S)) = _
     rw [cat_ret]; rfl
end Go.Proofs.YtecllfbadciaoaaDoor
