/-
  Keys of many one-time keys: the walks of the reference's leaves, up and New.
-/
import Derived.Test.YtcligodahogpkaaGreatDoorZip
import Derived.Test.YtcligodahogpkaaGreatDoorKeyW
import Derived.Laws.StructEq
set_option maxRecDepth 100000
set_option maxHeartbeats 8000000
namespace Go.Proofs.YtcligodahogpkaaGreatDoor
open Go.RowKit Go.Proofs.YtcligodahogpkaaGreatDoor.One
theorem oH {h : Nat} (hh : h ≤ 6) : wrap64 ((2 : Int) ^ h) = ((2 ^ h : Nat) : Int) := by
 have : h = 0 ∨ h = 1 ∨ h = 2 ∨ h = 3 ∨ h = 4 ∨ h = 5 ∨ h = 6 := by omega
 rcases this with rfl | rfl | rfl | rfl | rfl | rfl | rfl <;> (unfold wrap64; simp)
theorem BU {x : List Int} (h : Nat) : (iY x h 0) = (List.range (2 ^ h)).map (iO x 0) := by unfold iY; rw [Nat.sub_zero]
theorem oQ (x : List Int) (h : Nat) (w : World) (hs : H16 x) (hh : h ≤ 6) :
 Calls Tryz.prog 89 #[.agg (hvA x), .int .i64 (h : Int)] w fun e w' => ∃ sp cap, e = .returned (.slice sp (2 ^ h : Nat) cap) ∧ OwnHv w' w.heap.size (.slice sp (2 ^ h : Nat) cap) (iY x h 0) ∧ Below w.heap.size w w' := by
 have HS := zh hs; clear hs
 have HR := zh (RowB.new w 54 x)
 go_enter Tryz.func89, Tryz.ntmps89
 go_wp2_with fail
 generalize hw0 : World.alloc w _ = w0
 have HR0 : Hid (RowB w 54 x w0) := by rw [← hw0]; exact HR.out
 clear hw0 HR
 have hs0 : w.heap.size + 1 ≤ w0.heap.size := Nat.le_of_eq HR0.out.s.symm
 have h64 : 2 ^ h ≤ 64 := by have : 2 ^ h ≤ 2 ^ 6 := Nat.pow_le_pow_right (by omega) hh; omega
 obtain ⟨N, hN⟩ : ∃ N : Nat, 2 ^ h = N := ⟨_, rfl⟩
 have HN := zh hN
 have HWP := zh (oH hh)
 rw [hN] at h64 HWP
 clear hN
 go_loopw [5, 6] (fun v i wr => ∃ k : Nat, k ≤ N ∧ i = .int .i64 (k : Int) ∧ Hid (OwnHv wr (w.heap.size + 1) v ((List.range k).map (iO x 0))) ∧ Hid (Below (w.heap.size + 1) w0 wr)) (fun _ i _ => N - (intOf i).toNat)
 case atStart => exact ⟨0, by omega, rfl, OwnHv.nil _ _, Below.refl _ _⟩
 case round =>
  obtain ⟨k, hk, rfl, HOW, HBR⟩ := hrel
  have hszr : w.heap.size + 1 ≤ wr.heap.size := by have := HBR.out.size; omega
  by_cases hlt : k < N
  ·have HXR : Hid (wr.heap[w.heap.size]? = some (.cells (hvA x) 54 (0, 0))) := (HBR.out.block _ (by omega)).trans HR0.out.r
   have hd1 : decide ((k : Int) < wrap64 (2 ^ h)) = true := by rw [HWP.out]; simp; omega
   go_wp2_with (refine wpList_load_row rfl 54 _ rfl w.heap.size rfl 54 _ (0, 0) _ HXR.out Tryz.underlying54 rfl (aN HS.out) ?_)
   refine (vP x k wr HS.out).mono ?_
   rintro e w6 ⟨rfl, hb6⟩
   have HB6 := zh hb6
   clear hb6
   have hs6 : w.heap.size + 1 ≤ w6.heap.size := by have := HB6.out.size; omega
   have HO6 := zh (HOW.out.below HB6.out)
   have HSN := zh (eL (iO x 0) k)
   have HLK : Hid (k = ((List.range k).map (iO x 0)).length) := by show _ = _; simp
   have HEE : Hid (EO x (k : Int) = iO x 0 k) := rfl
   rw [HEE.out]
   have HY := zh (fX x 0 k)
   clear HEE
   generalize iO x 0 k = y at *
   go_wp2_with (first
    | (refine bR rfl 58 1 [(0, .tmp 17)] rfl [(0, .agg (hvA y))] rfl _ _ (kW _ y HY.out) ?_; generalize hw7 : World.alloc w6 _ = w7; have hr7 : w7.rangeAt w6.heap.size 0 (y.map (Value.int .u8)) := (by rw [← hw7]; intro j v hv; rw [Nat.zero_add]; exact aH (heap_alloc_new w6 _) hv); have hb7 : Below w6.heap.size w6 w7 := (by rw [← hw7]; exact aB _ _); have HR7 := zh hr7; have HB7 := zh hb7; have HO7 := zh (HO6.out.below hb7); have hs7 := hb7.size; have hs7b : w.heap.size + 1 ≤ w7.heap.size := (by omega); clear hw7 hr7 hb7)
    | (at_builtin; refine fR rfl (.tmp 14) (.tmp 18) rfl (w.heap.size + 1) _ _ k HLK.out rfl HO7.out w6.heap.size y rfl HR7.out HY.out (by omega) hs7b ?_; intro sp8 cap8 w8 HO8 HB8 HG8))
   go_roundw
   case rel => exact ⟨k + 1, by omega, by go_num, by rw [HSN.out]; exact HO8, HBR.out.trans ((HB6.out.mono (by omega)).trans ((HB7.out.mono (by omega)).trans HB8.out))⟩
   case measure => simp [intOf]; omega
  ·obtain rfl : k = N := by omega
   have hd1 : decide ((k : Int) < wrap64 (2 ^ h)) = false := by rw [HWP.out]; simp
   obtain ⟨sp', cap', rfl⟩ := aZ HOW.out.1
   have HLN : Hid (((List.range k).map (iO x 0)).length = k) := by show _ = _; simp
   have how := HOW.out
   rw [HLN.out] at how ⊢
   have HOW2 := zh how; clear how HOW
   go_wp2_with fail
   go_ret
   refine ⟨sp', cap', ?_, ?_, HR0.out.b.trans (HBR.out.mono (by omega))⟩
   ·rw [HN.out]; rfl
   ·rw [BU, HN.out]; exact HOW2.out.base (Nat.le_succ _)
def upL (k : Nat) (l : List (List Int)) (m : Nat) : List (List Int) := (List.range m).map fun i : Nat => eZ (k : Int) (i : Int) (l.getD (2 * i) []) (l.getD (2 * i + 1) [])
theorem AX (k : Nat) (l : List (List Int)) (m : Nat) : (upL k l m).length = m := by simp [upL]
theorem EW (k : Nat) (l : List (List Int)) (m : Nat) : upL k l (m + 1) = upL k l m ++ [eZ (k : Int) (m : Int) (l.getD (2 * m) []) (l.getD (2 * m + 1) [])] := eL _ _
theorem vM (k n m : Nat) (sp : Option Addr) (cap : Nat) (l : List (List Int)) (w : World) (hl : HvsIn w w.heap.size sp n cap l) (hnm : n = 2 * m) (hm : 0 < m) (hn : n ≤ 100000) :
 Calls Tryz.prog 90 #[.int .i64 (k : Int), .slice sp n cap] w fun e w' => ∃ sp' cap', e = .returned (.slice sp' m cap') ∧ OwnHv w' w.heap.size (.slice sp' m cap') (upL k l m) ∧ Below w.heap.size w w' := by
 obtain ⟨sb, so, hpl⟩ := hl.place
 obtain rfl := hpl (by omega)
 obtain ⟨sb', so', he, hsb, hcap, _⟩ := hl.cells (by omega)
 injection he with he; injection he with he1 he2; subst he1 he2
 have HL := zh hl; have HNM := zh hnm
 clear hl hpl hnm
 go_enter Tryz.func90, Tryz.ntmps90
 go_wp2_with fail
 go_loopw [5, 6] (fun v i wr => ∃ j : Nat, j ≤ m ∧ i = .int .i64 ((2 * j : Nat) : Int) ∧ Hid (OwnHv wr w.heap.size v (upL k l j)) ∧ Hid (Below w.heap.size w wr)) (fun _ i _ => n - (intOf i).toNat)
 case atStart => exact ⟨0, by omega, rfl, OwnHv.nil _ _, Below.refl _ _⟩
 case round =>
  obtain ⟨j, hj, rfl, HOW, HBR⟩ := hrel
  have hszr := HBR.out.size
  by_cases hlt : j < m
  ·have hn2 : n = 2 * m := HNM.out
   have dR := zh (HL.out.at16 (i := 2 * j) (by omega)); have jL := zh (HL.out.at16 (i := 2 * j + 1) (by omega))
   have HXR : Hid (wr.rangeAt sb (so + 2 * j * 16) ((l.getD (2 * j) []).map (Value.int .u8))) := by
    obtain ⟨b, o, e, h, _, hr⟩ := HL.out.cells (by omega); injection e with e; injection e with e1 e2; subst e1 e2; exact aA (hr (2 * j) (by omega)) HBR.out hsb
   have HYR : Hid (wr.rangeAt sb (so + (2 * j + 1) * 16) ((l.getD (2 * j + 1) []).map (Value.int .u8))) := by
    obtain ⟨b, o, e, h, _, hr⟩ := HL.out.cells (by omega); injection e with e; injection e with e1 e2; subst e1 e2; exact aA (hr (2 * j + 1) (by omega)) HBR.out hsb
   have HSN := zh (EW k l j)
   have HLK : Hid (j = (upL k l j).length) := (AX k l j).symm
   have hd1 : decide (2 * (j : Int) + 1 < (n : Int)) = true := by simp; omega
   have q1 : (0 : Int) ≤ 2 * (j : Int) := by omega
   have q2 : 2 * (j : Int) < (n : Int) := by omega
   have q3 : (0 : Int) ≤ 2 * (j : Int) + 1 := by omega
   have q4 : 2 * (j : Int) + 1 < (n : Int) := by omega
   have q5 : (n : Int) ≤ (cap : Int) := by omega
   have m2 : IntKind.i64.wrap (2 * (j : Int) + 1) = 2 * (j : Int) + 1 := IntWalk.i64_in _ (by omega)
   have m3 : IntKind.i64.wrap (j : Int) = (j : Int) := IntWalk.i64_in _ (by omega)
   have t1 : (2 * (j : Int)).toNat = 2 * j := by omega
   have t2 : (2 * (j : Int) + 1).toNat = 2 * j + 1 := by omega
   have d1 : Int.tdiv (2 * (j : Int)) 2 = (j : Int) := by rw [Int.tdiv_eq_ediv_of_nonneg (by omega)]; omega
   have d2 : (2 * (j : Int)) / 2 = (j : Int) := by omega
   clear hn2
   generalize l.getD (2 * j) [] = x at *
   generalize l.getD (2 * j + 1) [] = y at *
   have HZ16 := zh (bO (k : Int) (j : Int) x y)
   have HCJ := zh (fun w' => (show Calls Tryz.prog 97 #[.int .i64 (k : Int), .int .i64 (j : Int), .agg (x.map (Value.int .u8)).toArray, .agg (y.map (Value.int .u8)).toArray] w' fun e w'' => e = .returned (.agg (hvA (eZ (k : Int) (j : Int) x y))) ∧ Below w'.heap.size w' w'' from BS k j x y w' dR.out jL.out))
   have HIX := zh (cQ dR.out); have HIY := zh (cQ jL.out)
   generalize eZ (k : Int) (j : Int) x y = z at *
   go_wp2_with fail
   refine wp_region_held_drew (S := fun w' => w'.rangeAt sb (so + 2 * j * 16) (x.map (Value.int .u8)) ∧ w'.rangeAt sb (so + (2 * j + 1) * 16) (y.map (Value.int .u8))) (by kernel_rfl) ⟨HXR.out, HYR.out⟩ (fun hHeld => ?_)
   refine zv 0 rfl ?_
   refine zv 1 rfl ?_
   refine zv 2 rfl ?_
   refine zv 3 rfl ?_
   refine zv 4 rfl ?_
   refine zv 5 rfl ?_
   refine zv 6 rfl ?_
   refine' zk 7 rfl (v := _) (yieldsIf_load_mid (by rfl) _ _ rfl _ _ rfl _ _ ?hS7n8 Tryz.underlying54 rfl HIX.out) ?rest7n8
   case hS7n8 =>
    intro w' hSw
    exact hSw.1
   try simp only [Act.put, zA, zB, zC, zD, zE, zF]
   refine zv 8 rfl ?_
   refine zv 9 rfl ?_
   refine zv 10 rfl ?_
   refine zv 11 rfl ?_
   refine' zk 12 rfl (v := _) (yieldsIf_load_mid (by rfl) _ _ rfl _ _ rfl _ _ ?hS12n13 Tryz.underlying54 rfl HIY.out) ?rest12n13
   case hS12n13 =>
    intro w' hSw
    exact hSw.2
   try simp only [Act.put, zA, zB, zC, zD, zE, zF]
   refine zr 13 rfl (fun K hK => ?_)
   go_simp
   with_reducible refine (HCJ.out _).mono ?_
   rintro e w6 ⟨rfl, hb⟩
   have HB6 : Hid (Below wr.heap.size wr w6) := (Below.refl _ _).drew.trans hb
   clear hb
   have HX6 : Hid (w6.rangeAt sb (so + 2 * j * 16) (x.map (Value.int .u8)) ∧ w6.rangeAt sb (so + (2 * j + 1) * 16) (y.map (Value.int .u8))) := ⟨aA HXR.out HB6.out (by omega), aA HYR.out HB6.out (by omega)⟩
   have hs6 : w.heap.size ≤ w6.heap.size := by have := HB6.out.size; omega
   have HO6 := zh (HOW.out.below HB6.out)
   go_wp2_with fail
   refine hK.out _ _ HX6.out fun _ => ?_; clear hK K
   try simp only [Act.put, zA, zB, zC, zD, zE, zF]
   refine zr 14 rfl (fun K hK => ?_)
   rw [if_pos (by rfl)]
   refine gZ 58 1 [(0, .tmp 27)] rfl [(0, .agg (hvA z))] rfl _ _ (kW _ z HZ16.out) ?_
   generalize hw7 : World.alloc w6 _ = w7
   have hr7 : w7.rangeAt w6.heap.size 0 (z.map (Value.int .u8)) := by rw [← hw7]; intro j v hv; rw [Nat.zero_add]; exact aH (heap_alloc_new w6 _) hv
   have hb7 : Below w6.heap.size w6 w7 := by rw [← hw7]; exact aB _ _
   have HR7 := zh hr7; have HB7 := zh hb7; have HO7 := zh (HO6.out.below hb7)
   have hs7 := hb7.size
   have hs7b : w.heap.size ≤ w7.heap.size := by omega
   have HX7 : Hid (w7.rangeAt sb (so + 2 * j * 16) (x.map (Value.int .u8)) ∧ w7.rangeAt sb (so + (2 * j + 1) * 16) (y.map (Value.int .u8))) := ⟨aA HX6.out.1 HB7.out (by omega), aA HX6.out.2 HB7.out (by omega)⟩
   clear hw7 hr7 hb7 hs7
   refine hK.out _ _ HX7.out fun _ => ?_; clear hK K
   try simp only [Act.put, zA, zB, zC, zD, zE, zF]
   refine zr 15 rfl (fun K hK => ?_)
   rw [if_pos (by rfl)]
   refine hF (.tmp 14) (.tmp 28) rfl w.heap.size _ _ j HLK.out rfl HO7.out w6.heap.size z rfl HR7.out HZ16.out (by omega) hs7b ?_
   intro sp8 cap8 w8 HO8 HB8 HG8
   have HX8 : Hid (w8.rangeAt sb (so + 2 * j * 16) (x.map (Value.int .u8)) ∧ w8.rangeAt sb (so + (2 * j + 1) * 16) (y.map (Value.int .u8))) := ⟨aA HX7.out.1 HB8.out (by omega), aA HX7.out.2 HB8.out (by omega)⟩
   refine hK.out _ _ HX8.out fun _ => ?_; clear hK K
   try simp only [Act.put, zA, zB, zC, zD, zE, zF]
   refine zv 16 rfl ?_
   refine zd ?_ _
   go_wp2_with fail
   go_roundw
   case rel => exact ⟨j + 1, by omega, by go_num, by rw [HSN.out]; exact HO8, HBR.out.trans ((HB6.out.mono (by omega)).trans ((HB7.out.mono (by omega)).trans HB8.out))⟩
   case measure => simp [intOf]; omega
  ·obtain rfl : j = m := by omega
   have hjb : (j : Int) ≤ 100000 := by have := HNM.out; omega
   have hd1 : decide (2 * (j : Int) + 1 < (n : Int)) = false := by have := HNM.out; simp; omega
   obtain ⟨sp', cap', rfl⟩ := aZ HOW.out.1
   have how := HOW.out
   rw [AX] at how ⊢
   have HOW2 := zh how; clear how HOW
   go_wp2_with fail
   go_ret
   exact ⟨sp', cap', rfl, HOW2.out, HBR.out⟩
theorem IP (x : List Int) {h k : Nat} (hk : k < h) : upL k (iY x h k) (2 ^ (h - (k + 1))) = iY x h (k + 1) := oV x hk
theorem FK (x : List Int) (h : Nat) (w : World) (hs : H16 x) (hh : h ≤ 6) :
 Calls Tryz.prog 53 #[.agg (hvA x), .int .i64 (h : Int)] w fun e w' => e = .returned (.tuple #[.agg (pkA h (iO x h 0)), .int .i64 0]) ∧ Below w.heap.size w w' := by
 have HS := zh hs; clear hs
 have HT := zh (PkBox.new w x)
 have q1 : decide ((h : Int) < 0) = false := by simp
 have q2 : decide ((h : Int) > 6) = false := by simp; omega
 go_enter Tryz.func53, Tryz.ntmps53
 go_wp2_with (generalize hw0 : World.alloc (World.alloc w _) _ = w0; have HT0 : Hid (PkBox w x w0) := (by rw [← hw0]; exact HT.out); clear hw0 HT; refine wpList_load_row rfl 54 _ rfl w.heap.size rfl 54 _ (0, 0) _ HT0.out.x Tryz.underlying54 rfl (aN HS.out) ?_)
 clear q1 q2
 have hs0 : w.heap.size + 2 ≤ w0.heap.size := Nat.le_of_eq HT0.out.s.symm
 refine (oQ x h w0 HS.out hh).mono ?_
 rintro e w1 ⟨sp, cap, rfl, ho, hb1⟩
 have HB1 : Hid (Below (w.heap.size + 2) w0 w1) := hb1.mono hs0
 have hs1 := hb1.size
 have hl0 : (iY x h 0).length = 2 ^ h := by rw [eG, Nat.sub_zero]
 have HV1 := zh (ho.hvs hl0)
 clear ho hb1 hl0
 go_wp2_with fail
 go_loopw [6, 7] (fun v i wr => ∃ (k : Nat) (sp : Option Addr) (n cap : Nat), k ≤ h ∧ i = .int .i64 (k : Int) ∧ v = .slice sp n cap ∧ Hid (HvsIn wr wr.heap.size sp n cap (iY x h k)) ∧ Hid (Below (w.heap.size + 2) w0 wr)) (fun _ i _ => h - (intOf i).toNat)
 case atStart => exact ⟨0, sp, 2 ^ h, cap, by omega, rfl, rfl, HV1.out, HB1.out⟩
 case round =>
  clear HV1 HB1
  obtain ⟨k, sp, n, cap, hkh, rfl, rfl, HV, HBR⟩ := hrel
  have hszr : w.heap.size + 2 ≤ wr.heap.size := by have := HBR.out.size; omega
  by_cases hlt : k < h
  ·have hn2 : 2 ^ (h - k) = 2 * 2 ^ (h - (k + 1)) := by rw [show h - k = h - (k + 1) + 1 by omega, Nat.pow_succ]; omega
   have HN : Hid (n = 2 * 2 ^ (h - (k + 1))) := by show _ = _; rw [← hn2, ← eG x h k]; exact HV.out.len.symm
   have hmp : 0 < 2 ^ (h - (k + 1)) := Nat.pow_pos (by omega)
   have HUP := zh (IP x hlt)
   have HLN := zh (eG x h (k + 1))
   have h64 : 2 ^ (h - (k + 1)) ≤ 64 := oU hh _
   clear hn2
   generalize 2 ^ (h - (k + 1)) = m at *
   have hd1 : decide ((k : Int) < (h : Int)) = true := by simp; omega
   go_wp2_with fail
   refine (vM k n m sp cap (iY x h k) wr HV.out HN.out hmp (by have := HN.out; omega)).mono ?_
   rintro e w5 ⟨sp5, cap5, rfl, ho5, hb5⟩
   rw [HUP.out] at ho5
   have HV5 := zh (ho5.hvs HLN.out)
   have HB5 : Hid (Below (w.heap.size + 2) w0 w5) := HBR.out.trans (hb5.mono hszr)
   clear ho5 hb5
   go_wp2_with fail
   go_roundw
   case rel => exact ⟨k + 1, sp5, m, cap5, by omega, by go_num, rfl, HV5.out, HB5.out⟩
   case measure => simp [intOf]; omega
  ·obtain rfl : k = h := by omega
   have hd1 : decide ((k : Int) < (k : Int)) = false := by simp
   have hhv := HV.out
   rw [CG] at hhv
   have hn1 : n = 1 := hhv.len.symm
   subst hn1
   obtain ⟨sb, so, rfl, hsb, hc1, hr⟩ := hhv.cells (by omega)
   have HR : Hid (wr.rangeAt sb so ((iO x k 0).map (Value.int .u8))) := by have := hr 0 (by omega); rw [Nat.zero_mul, Nat.add_zero] at this; exact this
   have HNK := zh (fX x k 0)
   have HIR := zh (cQ HNK.out)
   have HZ1 : Hid (wr.heap[w.heap.size + 1]? = some (.cells (pkA 0 bK) 56 (0, 0))) := (HBR.out.block _ (by omega)).trans HT0.out.z
   have HBW : Hid (Below w.heap.size w wr) := HT0.out.b.trans (HBR.out.mono (by omega))
   clear hr hhv
   go_wp2_with (first
    | (refine wpList_load_mid rfl 54 _ rfl sb so rfl _ _ HR.out Tryz.underlying54 rfl HIR.out ?_)
    | (refine cM rfl 56 [(0, .tmp 26), (1, .tmp 29)] rfl [(0, .int .i64 (k : Int)), (1, .agg ((iO x k 0).map (Value.int .u8)).toArray)] rfl _ (DU k (iO x k 0) HNK.out _) ?_)
    | (refine wpList_store_row rfl 56 _ _ rfl (w.heap.size + 1) _ rfl rfl 56 _ HZ1.out (eI HNK.out) (by rw [iW HNK.out, iW aD]) (xM _ _) ?_))
   exact bodyPost_ret (bT (P := Tryz.prog) rfl _ _ (w.heap.size + 1) 56 _ (0, 0) _ rfl (setRow_heap _ _ _ _ _ _ HZ1.out) Tryz.underlying56 rfl (eI HNK.out)) rfl ⟨rfl, below_setRow HBW.out (by omega) _⟩
def idB (h : Int) (r : List Int) : List Int := [7, h % 256] ++ r
theorem DA (h : Int) {r : List Int} (hr : H16 r) : Byt (idB h r) := fun y hy => by
 rcases List.mem_append.1 hy with hy | hy
 ·simp only [List.mem_cons, List.not_mem_nil, or_false] at hy
  rcases hy with rfl | rfl <;> omega
 ·exact hr.2 y hy
theorem rW (h : Int) {r : List Int} (hr : H16 r) : (idB h r).length = 18 := by simp [idB, hr.1]
structure IdBox (w : World) (h : Int) (r : List Int) (w0 : World) : Prop where
 k : w0.heap[w.heap.size]? = some (.cells (pkA h r) 56 (0, 0))
 z : w0.heap[w.heap.size + 1]? = some (.cells (Array.replicate 32 (Value.int .u8 0)) 43 (0, 0))
 b : Below w.heap.size w w0
 s : w0.heap.size = w.heap.size + 2
theorem IdBox.new (w : World) (h : Int) (r : List Int) : IdBox w h r ((w.alloc (.cells (pkA h r) 56)).alloc (.cells (Array.replicate 32 (Value.int .u8 0)) 43)) :=
 ⟨(heap_alloc_old _ _ (by simp)).trans (heap_alloc_new w _), by have h := heap_alloc_new (w.alloc (.cells (pkA h r) 56)) (.cells (Array.replicate 32 (Value.int .u8 0)) 43); rw [World.size_alloc] at h; exact h, ((Below.refl _ _).alloc (Nat.le_refl _) _).alloc (by simp) _, by simp⟩
theorem JA : (Tryz.prog.info? 5).map (fun i => (i.zero, i.size, i.bytes)) = some (some (.int .u8 0), 1, 1) := by kernel_rfl
theorem CZ (h : Int) (r : List Int) (w : World) (hr : H16 r) (hk : KayIn w) (hk0 : 1 < w.heap.size) :
 Calls Tryz.prog 35 #[.agg (pkA h r)] w fun e w' => e = .returned (.agg (dg (idB h r))) ∧ Below w.heap.size w w' := by
 have jG := zh hr; have HK := zh hk
 clear hr hk
 obtain ⟨i0, hi0, hz0, hz1, hz2⟩ := info_parts JA
 have HI0 := zh hi0; have HZ0 := zh hz0; have HZ1 := zh hz1; have HZ2 := zh hz2
 clear hi0 hz0 hz1 hz2
 have HT := zh (IdBox.new w h r)
 go_enter Tryz.func35, Tryz.ntmps35
 go_upto_region 1 with (fail)
 generalize hw0 : World.alloc (World.alloc w _) _ = w0
 have HT0 : Hid (IdBox w h r w0) := by rw [← hw0]; exact HT.out
 clear hw0 HT
 have hs0 : w.heap.size + 2 ≤ w0.heap.size := Nat.le_of_eq HT0.out.s.symm
 refine wp_region_held_drew (S := fun w' => w'.heap[w.heap.size]? = some (.cells (pkA h r) 56 (0, 0))) (by kernel_rfl) HT0.out.k (fun hHeld => ?_)
 refine zv 0 rfl ?_
 refine zx 1 rfl (v := ?_) ?_ ?_; rotate_left
 ·intro w' hSw; have c1 := uW hSw; go_simp; try with_reducible rfl
 refine zv 2 rfl ?_
 refine zv 4 rfl ?_
 refine zv 5 rfl ?_
 refine zr 3 rfl (fun K hK => ?_)
 have HO := zh (World.ownsRow_lit (base := w0.heap.size) (e := 5) (size := 1) w0 #[.int .u8 7, .int .u8 (h % 256)] 2 (Nat.le_refl _) (by unfold maxLen; omega) rfl)
 have HQ := zh (aB w0 (.cells #[.int .u8 7, .int .u8 (h % 256)] 5))
 go_simp
 generalize hw : World.drew (World.alloc w0 _) = w1
 have HO1 : Hid (w1.ownsRow w0.heap.size 5 1 (.slice (some ⟨w0.heap.size, 0, none⟩) 2 2) 2 [.int .u8 7, .int .u8 (h % 256)]) := by rw [← hw]; exact HO.out.drew
 have HE1 : Hid (Below w0.heap.size w0 w1) := by rw [← hw]; exact HQ.out.drew
 clear hw HO HQ
 have hs1 := HE1.out.size
 have HK1 : Hid (w1.heap[w.heap.size]? = some (.cells (pkA h r) 56 (0, 0))) := (HE1.out.block _ (by omega)).trans HT0.out.k
 have HRR : Hid (∀ j u, (r.map (Value.int .u8))[j]? = some u → w1.cell? ((⟨w.heap.size, 1, none⟩ : Addr).add j) = some u) := fun j u hj => by rw [Addr.add_mid]; exact pk_r HK1.out j u hj
 refine hK.out _ _ HK1.out fun _ => ?_; clear hK K
 try simp only [Act.put, zA, zB, zC, zD, zE, zF]
 refine zr 6 rfl (fun K hK => ?_)
 rw [if_pos (by rfl)]
 refine wp_append_own w1 (.tmp 6) (.tmp 8) 22 rfl w0.heap.size 5 i0 (.int .u8 0) 1 1 Tryz.underlying22 HI0.out HZ0.out HZ1.out HZ2.out rfl (by decide) _ 2 _ rfl HO1.out ⟨w.heap.size, 1, none⟩ 16 16 (r.map (Value.int .u8)) rfl (by rw [List.length_map, jG.out.1]) (fun j u hj => HRR.out j u hj) (fun u hu => by obtain ⟨i, _, rfl⟩ := List.mem_map.1 hu; rfl) (by unfold maxLen; omega) (by omega) (by omega) ?_
 intro v2 w2 ho2 hg2 _
 have HO2 : Hid (w2.ownsRow w0.heap.size 5 1 v2 (idB h r).length ((idB h r).map (Value.int .u8))) := by
  show World.ownsRow _ _ _ _ _ _ _
  rw [rW h jG.out]
  exact ho2
 have HE2 : Hid (Below w0.heap.size w0 w2) := HE1.out.grown hg2 (by omega) (bL HO1.out)
 clear ho2 hg2
 obtain ⟨sp2, cap2, rfl, hsrc, hnil⟩ := gD HO2.out (DA h jG.out)
 have JN := zh hsrc; have uY := zh hnil
 clear hsrc hnil
 have hs2 := HE2.out.size
 have HK2 : Hid (w2.heap[w.heap.size]? = some (.cells (pkA h r) 56 (0, 0))) := (HE2.out.block _ (by omega)).trans HT0.out.k
 refine hK.out _ _ HK2.out fun _ => ?_; clear hK K
 try simp only [Act.put, zA, zB, zC, zD, zE, zF]
 refine zr 7 rfl (fun K hK => ?_)
 go_simp
 have HC := zh (DZ sp2 (idB h r).length cap2 (idB h r) w2 JN.out (HK.out.below (HT0.out.b.trans (HE2.out.mono (by omega))) hk0) (by omega) (by rw [rW h jG.out]; omega))
 with_reducible refine HC.out.mono ?_
 rintro e w3 ⟨rfl, hb3⟩
 have HE3 : Hid (Below w2.heap.size w2 w3) := hb3
 have HZ3 : Hid (w3.heap[w.heap.size + 1]? = some (.cells (Array.replicate 32 (Value.int .u8 0)) 43 (0, 0))) := (hb3.block _ (by omega)).trans ((HE2.out.block _ (by omega)).trans HT0.out.z)
 clear hb3
 have HK3 : Hid (w3.heap[w.heap.size]? = some (.cells (pkA h r) 56 (0, 0))) := (HE3.out.block _ (by omega)).trans HK2.out
 go_wp2_with fail
 refine hK.out _ _ HK3.out fun _ => ?_; clear hK K
 try simp only [Act.put, zA, zB, zC, zD, zE, zF]
 refine zr 8 rfl (fun K hK => ?_)
 rw [if_pos (by rfl)]
 refine wp_store_row 43 _ _ rfl (w.heap.size + 1) _ rfl rfl 43 _ HZ3.out (bP _) (by rw [bY]; rfl) (cZ _) ?_
 skip
 refine hK.out _ _ ((setRow_other _ _ _ _ (by omega)).trans HK3.out) fun _ => ?_; clear hK K
 try simp only [Act.put, zA, zB, zC, zD, zE, zF]
 refine zd ?_ _
 go_wp2_with fail
 exact bodyPost_ret (results_cell_row (P := Tryz.prog) rfl _ _ (w.heap.size + 1) 43 _ (0, 0) _ rfl (setRow_heap _ _ _ _ _ _ HZ3.out) Tryz.underlying43 rfl (bP _)) rfl ⟨rfl, below_setRow (HT0.out.b.trans ((HE2.out.mono (by omega)).trans (HE3.out.mono (by omega)))) (by omega) _⟩
theorem mG (h : Int) (r : List Int) (w : World) (hr : H16 r) :
 Calls Tryz.prog 30 #[.agg (pkA h r)] w fun e w' => e = .returned (.agg (dg (idB h r))) ∧ Below w.heap.size w w' := by
 have jG := zh hr
 clear hr
 obtain ⟨i0, hi0, hz0, hz1, hz2⟩ := info_parts JA
 have HI0 := zh hi0; have HZ0 := zh hz0; have HZ1 := zh hz1; have HZ2 := zh hz2
 clear hi0 hz0 hz1 hz2
 have HT := zh (IdBox.new w h r)
 go_enter Tryz.func30, Tryz.ntmps30
 go_upto_region 1 with (fail)
 generalize hw0 : World.alloc (World.alloc w _) _ = w0
 have HT0 : Hid (IdBox w h r w0) := by rw [← hw0]; exact HT.out
 clear hw0 HT
 have hs0 : w.heap.size + 2 ≤ w0.heap.size := Nat.le_of_eq HT0.out.s.symm
 have c0 := uW HT0.out.k
 have HO := zh (World.ownsRow_lit (base := w0.heap.size) (e := 5) (size := 1) w0 #[.int .u8 7, .int .u8 (h % 256)] 2 (Nat.le_refl _) (by unfold maxLen; omega) rfl)
 have HQ := zh (aB w0 (.cells #[.int .u8 7, .int .u8 (h % 256)] 5))
 go_wp2_with (at_builtin; generalize hw : World.alloc w0 _ = w1; have HO1 : Hid (w1.ownsRow w0.heap.size 5 1 (.slice (some ⟨w0.heap.size, 0, none⟩) 2 2) 2 [.int .u8 7, .int .u8 (h % 256)]) := (by rw [← hw]; exact HO.out); have HE1 : Hid (Below w0.heap.size w0 w1) := (by rw [← hw]; exact HQ.out); clear hw HO HQ; have hs1 := HE1.out.size; have HK1 : Hid (w1.heap[w.heap.size]? = some (.cells (pkA h r) 56 (0, 0))) := ((HE1.out.block _ (by omega)).trans HT0.out.k); have HRR : Hid (∀ j u, (r.map (Value.int .u8))[j]? = some u → w1.cell? ((⟨w.heap.size, 1, none⟩ : Addr).add j) = some u) := (fun j u hj => by rw [Addr.add_mid]; exact pk_r HK1.out j u hj); refine wpList_append_own w1 rfl (.tmp 8) (.tmp 10) 22 rfl w0.heap.size 5 i0 (.int .u8 0) 1 1 Tryz.underlying22 HI0.out HZ0.out HZ1.out HZ2.out rfl (by decide) _ 2 _ rfl HO1.out ⟨w.heap.size, 1, none⟩ 16 16 (r.map (Value.int .u8)) rfl (by rw [List.length_map, jG.out.1]) (fun j u hj => HRR.out j u hj) (fun u hu => by obtain ⟨i, _, rfl⟩ := List.mem_map.1 hu; rfl) (by unfold maxLen; omega) (by omega) (by omega) ?_; intro v2 w2 ho2 hg2 _)
 clear c0
 have HO2 : Hid (w2.ownsRow w0.heap.size 5 1 v2 (idB h r).length ((idB h r).map (Value.int .u8))) := by
  show World.ownsRow _ _ _ _ _ _ _
  rw [rW h jG.out]
  exact ho2
 have HE2 : Hid (Below w0.heap.size w0 w2) := HE1.out.grown hg2 (by omega) (bL HO1.out)
 clear ho2 hg2
 obtain ⟨sp2, cap2, rfl, hsrc, hnil⟩ := gD HO2.out (DA h jG.out)
 have JN := zh hsrc; have uY := zh hnil
 clear hsrc hnil
 have hs2 := HE2.out.size
 refine (mH sp2 (idB h r).length cap2 (idB h r) w2 JN.out uY.out (by rw [rW h jG.out]; omega)).mono ?_
 rintro e w3 ⟨rfl, hb3⟩
 have HE3 : Hid (Below w2.heap.size w2 w3) := hb3
 have HZ3 : Hid (w3.heap[w.heap.size + 1]? = some (.cells (Array.replicate 32 (Value.int .u8 0)) 43 (0, 0))) := (hb3.block _ (by omega)).trans ((HE2.out.block _ (by omega)).trans HT0.out.z)
 clear hb3
 go_wp2_with (refine wpList_store_row rfl 43 _ _ rfl (w.heap.size + 1) _ rfl rfl 43 _ HZ3.out (bP _) (by rw [bY]; rfl) (cZ _) ?_)
 exact bodyPost_ret (results_cell_row (P := Tryz.prog) rfl _ _ (w.heap.size + 1) 43 _ (0, 0) _ rfl (setRow_heap _ _ _ _ _ _ HZ3.out) Tryz.underlying43 rfl (bP _)) rfl ⟨rfl, below_setRow (HT0.out.b.trans ((HE2.out.mono (by omega)).trans (HE3.out.mono (by omega)))) (by omega) _⟩
end Go.Proofs.YtcligodahogpkaaGreatDoor
