/-
  Keys of many one-time keys: what a signer signs verifies; the walks of low and awake (condition: the table of constants reads as it is laid).
-/
import Derived.Test.YtbfgkbcpkldofaaDoorKeyV
namespace Go.Proofs.YtbfgkbcpkldofaaDoor
open Go.RowKit Go.Proofs.YtbfgkbcpkldofaaDoor.One

theorem pubN (x : List Int) (i : Nat) : pubB x (i : Int) = nodK x 0 i := rfl
theorem vfy_sign {x d : List Int} {h leaf : Nat} (hd : D32 d) (hh : h ≤ 6) (hl : leaf < 2 ^ h) : vfyB (h : Int) (nodK x h 0) d (leaf : Int) 68 h (sigB x leaf d) (pathB x h leaf) = true := by
  unfold vfyB
  have h1 : shpB (h : Int) (leaf : Int) 68 h = true := by
    unfold shpB
    rw [decide_eq_true]
    refine ⟨by omega, by omega, ?_, rfl, rfl⟩
    unfold lvN; rw [Int.toNat_natCast]; omega
  rw [h1, Bool.true_and, Int.toNat_natCast, Int.toNat_natCast, recover_sign (x := x) (leaf : Int) hd, pubN, way_root x hl]
  exact decide_eq_true rfl
theorem shp_sign {h leaf : Nat} (hh : h ≤ 6) (hl : leaf < 2 ^ h) : shpB (h : Int) (leaf : Int) 68 h = true := by
  unfold shpB
  rw [decide_eq_true]
  refine ⟨by omega, by omega, ?_, rfl, rfl⟩
  unfold lvN; rw [Int.toNat_natCast]; omega
theorem sigB_len (x : List Int) (leaf : Int) (d : List Int) : (sigB x leaf d).length = 68 := by simp [sigB]
theorem pathB_len (x : List Int) (h leaf : Nat) : (pathB x h leaf).length = h := by simp [pathB]
theorem md3 (x : Int) : (wrap64 (Int.tmod x 3 + 3)).tmod 3 = x % 3 := by
  have h1 : -3 < Int.tmod x 3 := Int.lt_tmod_of_pos x (by decide)
  have h2 : Int.tmod x 3 < 3 := Int.tmod_lt_of_pos x (by decide)
  rw [show wrap64 (Int.tmod x 3 + 3) = Int.tmod x 3 + 3 by unfold wrap64; omega]
  rw [Int.tmod_eq_emod_of_nonneg (by omega)]
  rcases Int.le_total 0 x with h | h
  · rw [Int.tmod_eq_emod_of_nonneg h]; omega
  · have e : Int.tmod x 3 = -((-x) % 3) := by
      have := Int.neg_tmod x 3
      rw [Int.tmod_eq_emod_of_nonneg (a := -x) (by omega)] at this
      omega
    rw [e]; omega
def hf1 : List Int := 1 :: List.replicate 15 0
def dg2 : List Int := 2 :: List.replicate 31 0
theorem hf1_ok : H16 hf1 := ⟨rfl, fun y hy => by
  simp only [hf1, List.mem_cons, List.mem_replicate] at hy
  rcases hy with rfl | ⟨_, rfl⟩ <;> omega⟩
theorem dg2_ok : D32 dg2 := ⟨rfl, fun y hy => by
  simp only [dg2, List.mem_cons, List.mem_replicate] at hy
  rcases hy with rfl | ⟨_, rfl⟩ <;> omega⟩
theorem buildSgZ (w : World) : (Instr.build 29 #[(0, .agg (hvA hf1))]).run Tryd.prog w = .ok (.agg (sgA hf1 0 0)) w := by kernel_rfl
/-- two boxes: room for a signer and for a signature -/
structure ZzBox (w w0 : World) : Prop where
  y : w0.heap[w.heap.size]? = some (.cells (sgA zh16 0 0) 29 (0, 0))
  z : w0.heap[w.heap.size + 1]? = some (.cells (siA 0 nilS nilS) 37 (0, 0))
  b : Below w.heap.size w w0
  k : w0.heap.size = w.heap.size + 2
theorem ZzBox.new (w : World) : ZzBox w ((w.alloc (.cells (sgA zh16 0 0) 29)).alloc (.cells (siA 0 nilS nilS) 37)) :=
  ⟨(heap_alloc_old _ _ (by simp)).trans (heap_alloc_new w _), by have h := heap_alloc_new (w.alloc (.cells (sgA zh16 0 0) 29)) (.cells (siA 0 nilS nilS) 37); rw [World.size_alloc] at h; exact h, ((Below.refl _ _).alloc (Nat.le_refl _) _).alloc (by simp) _, by simp⟩
/-- a public key that was just laid -/
structure PkRow (w : World) (h : Int) (r : List Int) (w0 : World) : Prop where
  k : w0.heap[w.heap.size]? = some (.cells (pkA h r) 31 (0, 0))
  b : Below w.heap.size w w0
  s : w0.heap.size = w.heap.size + 1
theorem PkRow.new (w : World) (h : Int) (r : List Int) : PkRow w h r (w.alloc (.cells (pkA h r) 31)) := ⟨heap_alloc_new w _, below_alloc _ _, alloc_size _ _⟩
set_option maxRecDepth 100000 in
set_option maxHeartbeats 4000000 in
theorem awake_any (w : World) (hk : KayIn w) (hk0 : 1 < w.heap.size) :
    Calls Tryd.prog 8 #[] w fun e w' => e = .returned (.bool true) ∧ Below w.heap.size w w' := by
  have HK := Lib.hid hk; clear hk
  go_enter Tryd.func8, Tryd.ntmps8
  go_wp2_with fail
  refine (new_any hf1 0 w hf1_ok (by omega) HK.out hk0).mono ?_
  rintro e w1 ⟨rfl, hb1⟩
  have HB1 := Lib.hid hb1
  have hs1 := hb1.size
  clear hb1
  have HNK := Lib.hid (nodK_H16 hf1 0 0)
  generalize hr : nodK hf1 0 0 = r at *
  have HRE := Lib.hid hr; clear hr
  have HZP := Lib.hid (PkRow.new w1 0 zh16)
  have HRP := Lib.hid (PkRow.new w1 0 r)
  go_wp2_with (refine wpList_store_row rfl 31 _ _ rfl w1.heap.size _ rfl rfl 31 _ HZP.out.k (info_pk HNK.out) (by rw [pkA_size HNK.out]; rfl) (one_pk _ _) ?_; rw [setRow_new]; generalize hw2 : World.alloc w1 _ = w2; have HP2 : Hid (PkRow w1 0 r w2) := (by rw [← hw2]; exact HRP.out); clear hw2 HZP HRP)
  have hs2 : w1.heap.size + 1 ≤ w2.heap.size := Nat.le_of_eq HP2.out.s.symm
  have HB2 : Hid (Below w.heap.size w w2) := HB1.out.trans (HP2.out.b.mono hs1)
  have HK2 : Hid (KayIn w2) := HK.out.below HB2.out hk0
  refine (sign_ok hf1 0 0 dg2 w2 hf1_ok dg2_ok (by omega) (by decide) HK2.out (by omega)).mono ?_
  rintro e w3 ⟨spc, capc, gp, rfl, hc, hp, hb3⟩
  have HC3 := Lib.hid hc; have HP3 := Lib.hid hp; have HB3 := Lib.hid hb3
  have hs3 := hb3.size
  have HPK3 : Hid (w3.heap[w1.heap.size]? = some (.cells (pkA 0 r) 31 (0, 0))) := (hb3.block _ (by omega)).trans HP2.out.k
  clear hc hp hb3
  have HZZ := Lib.hid (ZzBox.new w3)
  have HIS : Hid (w3.heap.size + 1 ≠ w3.heap.size) := by show _ ≠ _; omega
  go_wp2_with (first
    | (generalize hz : World.alloc (World.alloc w3 _) _ = w4; have HZ4 : Hid (ZzBox w3 w4) := (by rw [← hz]; exact HZZ.out); clear hz HZZ; have HC4 : Hid (OwnHv w4 w2.heap.size (.slice spc 68 capc) (sigB hf1 0 dg2)) := HC3.out.below HZ4.out.b; have HP4 : Hid (OwnHv w4 w2.heap.size (.slice (some ⟨gp, 0, none⟩) 0 0) (pathB hf1 0 0)) := HP3.out.below HZ4.out.b; refine wpList_store_row rfl 29 _ _ rfl w3.heap.size (sgA hf1 0 1) rfl rfl 29 _ HZ4.out.y (info_sg hf1_ok) rfl (one_sg _ _ _) ?_; generalize hw5 : World.setRow w4 _ _ = w5; have HY5 : Hid (w5.heap[w3.heap.size]? = some (.cells (sgA hf1 0 1) 29 (0, 0))) := (by rw [← hw5]; exact setRow_heap _ _ _ _ _ _ HZ4.out.y); have HZ5 : Hid (w5.heap[w3.heap.size + 1]? = some (.cells (siA 0 nilS nilS) 37 (0, 0))) := (by rw [← hw5]; exact (setRow_other _ _ _ _ HIS.out).trans HZ4.out.z); have HB5 : Hid (Below w3.heap.size w3 w5) := (by rw [← hw5]; exact below_setRow HZ4.out.b (Nat.le_refl _) _); have HC5 : Hid (OwnHv w5 w2.heap.size (.slice spc 68 capc) (sigB hf1 0 dg2)) := (by rw [← hw5]; exact HC4.out.setRow HZ4.out.y ne_sg _); have HP5 : Hid (OwnHv w5 w2.heap.size (.slice (some ⟨gp, 0, none⟩) 0 0) (pathB hf1 0 0)) := (by rw [← hw5]; exact HP4.out.setRow HZ4.out.y ne_sg _); clear hw5 HC4 HP4 HZ4)
    | (refine wpList_store_row rfl 37 _ _ rfl (w3.heap.size + 1) (siA 0 (.slice spc 68 capc) (.slice (some ⟨gp, 0, none⟩) 0 0)) rfl rfl 37 _ HZ5.out (info_si _ _ _) rfl (one_si _ _ _ _ _ _ _) ?_; generalize hw6 : World.setRow w5 _ _ = w6; have HY6 : Hid (w6.heap[w3.heap.size]? = some (.cells (sgA hf1 0 1) 29 (0, 0))) := (by rw [← hw6]; exact (setRow_other _ _ _ _ (Ne.symm HIS.out)).trans HY5.out); have HZ6 : Hid (w6.heap[w3.heap.size + 1]? = some (.cells (siA 0 (.slice spc 68 capc) (.slice (some ⟨gp, 0, none⟩) 0 0)) 37 (0, 0))) := (by rw [← hw6]; exact setRow_heap _ _ _ _ _ _ HZ5.out); have HB6 : Hid (Below w3.heap.size w3 w6) := (by rw [← hw6]; exact below_setRow HB5.out (Nat.le_succ _) _); have HC6 : Hid (OwnHv w6 w2.heap.size (.slice spc 68 capc) (sigB hf1 0 dg2)) := (by rw [← hw6]; exact HC5.out.setRow HZ5.out ne_si _); have HP6 : Hid (OwnHv w6 w2.heap.size (.slice (some ⟨gp, 0, none⟩) 0 0) (pathB hf1 0 0)) := (by rw [← hw6]; exact HP5.out.setRow HZ5.out ne_si _); have HPK6 : Hid (w6.heap[w1.heap.size]? = some (.cells (pkA 0 r) 31 (0, 0))) := ((HB6.out.block _ (by omega)).trans HPK3.out); have c17 : w6.cell? ⟨w3.heap.size, 17, none⟩ = some (.int .i64 1) := sg_n hf1_ok HY6.out; have k2 := si_l HZ6.out; have k3 := si_c HZ6.out; have k4 := si_p HZ6.out; have HPR := Lib.hid (row_rngK (L := pkL 0 r) HPK6.out); clear hw6 HY5 HZ5 HB5 HC5 HP5)
    | (refine wpList_load_mid_gK (by rfl) 31 _ rfl w1.heap.size 0 rfl _ _ HPR.out Tryd.underlying31 rfl (info_pkL HNK.out) ?_))
  have HBW : Hid (Below w.heap.size w w6) := HB2.out.trans ((HB3.out.mono (by omega)).trans (HB6.out.mono (by omega)))
  have hs6 := HB6.out.size
  have HVC := Lib.hid (verify_any 0 r dg2 0 spc 68 capc (some ⟨gp, 0, none⟩) 0 0 (sigB hf1 0 dg2) (pathB hf1 0 0) w6 HNK.out dg2_ok (HC6.out.hvs (sigB_len _ _ _)) (HP6.out.hvs (pathB_len _ _ _)) (HK.out.below HBW.out hk0) (by omega))
  have hv := vfy_sign (x := hf1) (d := dg2) (h := 0) (leaf := 0) dg2_ok (by omega) (by decide)
  rw [HRE.out] at hv
  have HV : Hid (vfyB 0 r dg2 0 68 0 (sigB hf1 0 dg2) (pathB hf1 0 0) = true) := hv
  clear hv k2 k3 k4 c17
  refine HVC.out.mono ?_
  rintro e w7 ⟨rfl, hb7⟩
  rw [HV.out]
  go_wp2_with fail
  go_ret
  exact ⟨rfl, HBW.out.trans (hb7.mono (by omega))⟩
end Go.Proofs.YtbfgkbcpkldofaaDoor
