/-
  The walk of the reference's function for the round constants, and the memory of its function for one block (for every world).
-/
import Derived.Test.YtcligodahogpkaaGreatDoorZip
import Derived.Test.YtcligodahogpkaaGreatDoorGg
import Derived.Deep.RegionHeld3
import Derived.Deep.LoopGhost
import Derived.IntWalk
import Derived.Outline
set_option maxRecDepth 100000
set_option maxHeartbeats 8000000
namespace Go.Proofs.YtcligodahogpkaaGreatDoor
open Go.RowKit
def iP : Array Value := (kay.map (Value.int .u32)).toArray
theorem GV (w : World) : (Instr.build 167 #[(0, .int .u32 1116352408), (1, .int .u32 1899447441), (2, .int .u32 3049323471), (3, .int .u32 3921009573), (4, .int .u32 961987163), (5, .int .u32 1508970993), (6, .int .u32 2453635748), (7, .int .u32 2870763221), (8, .int .u32 3624381080), (9, .int .u32 310598401), (10, .int .u32 607225278), (11, .int .u32 1426881987), (12, .int .u32 1925078388), (13, .int .u32 2162078206), (14, .int .u32 2614888103), (15, .int .u32 3248222580), (16, .int .u32 3835390401), (17, .int .u32 4022224774), (18, .int .u32 264347078), (19, .int .u32 604807628), (20, .int .u32 770255983), (21, .int .u32 1249150122), (22, .int .u32 1555081692), (23, .int .u32 1996064986), (24, .int .u32 2554220882), (25, .int .u32 2821834349), (26, .int .u32 2952996808), (27, .int .u32 3210313671), (28, .int .u32 3336571891), (29, .int .u32 3584528711), (30, .int .u32 113926993), (31, .int .u32 338241895), (32, .int .u32 666307205), (33, .int .u32 773529912), (34, .int .u32 1294757372), (35, .int .u32 1396182291), (36, .int .u32 1695183700), (37, .int .u32 1986661051), (38, .int .u32 2177026350), (39, .int .u32 2456956037), (40, .int .u32 2730485921), (41, .int .u32 2820302411), (42, .int .u32 3259730800), (43, .int .u32 3345764771), (44, .int .u32 3516065817), (45, .int .u32 3600352804), (46, .int .u32 4094571909), (47, .int .u32 275423344), (48, .int .u32 430227734), (49, .int .u32 506948616), (50, .int .u32 659060556), (51, .int .u32 883997877), (52, .int .u32 958139571), (53, .int .u32 1322822218), (54, .int .u32 1537002063), (55, .int .u32 1747873779), (56, .int .u32 1955562222), (57, .int .u32 2024104815), (58, .int .u32 2227730452), (59, .int .u32 2361852424), (60, .int .u32 2428436474), (61, .int .u32 2756734187), (62, .int .u32 3204031479), (63, .int .u32 3329325298)]).run Tryz.prog w = .ok (.agg iP) w := by kernel_rfl
theorem qP : iP.all (·.oneCell') = true := bE _ _
theorem sD (w : World) :
 Calls Tryz.prog 136 #[] w fun e w' => e = .returned (.agg iP) ∧ Below w.heap.size w w' := by
 have hk := GV
 have H0 := zh (heap_alloc_new w (.cells (Array.replicate 64 (Value.int .u32 0)) 167))
 have HB := zh (aB w (.cells (Array.replicate 64 (Value.int .u32 0)) 167))
 have HI : Hid ((Tryz.prog.info? 167).map (·.size) = some iP.size) := Tryz.info64u
 have HS : Hid ((Array.replicate 64 (Value.int .u32 0)).size = iP.size) := by show _ = _; simp [iP, kC]
 go_enter Tryz.func136, Tryz.ntmps136
 go_wp2_with (generalize hw0 : World.alloc w _ = w0; have hz : w0.heap[w.heap.size]? = some (.cells (Array.replicate 64 (Value.int .u32 0)) 167 (0, 0)) := (by rw [← hw0]; exact H0.out); have hb : Below w.heap.size w w0 := (by rw [← hw0]; exact HB.out); have HZ := zh hz; clear hw0 hz; refine wpList_store_row rfl 167 _ _ rfl w.heap.size iP rfl rfl 167 _ HZ.out HI.out HS.out qP ?_)
 exact bodyPost_ret (results_cell_row (P := Tryz.prog) rfl _ _ w.heap.size 167 iP (0, 0) _ rfl (setRow_heap _ _ _ _ _ _ HZ.out) Tryz.underlying167 rfl HI.out) rfl ⟨rfl, below_setRow hb (Nat.le_refl _) _⟩
def tF (n x : Int) : Int := bits .or .u32 (x / 2 ^ n.toNat) (x * 2 ^ (32 - n).toNat % 4294967296)
theorem nT (x n : Int) (w : World) (h0 : 0 ≤ n) (h1 : n ≤ 31) :
 Calls Tryz.prog 135 #[.int .u32 x, .int .i64 n] w fun e w' => e = .returned (.int .u32 (tF n x)) ∧ w = w' := by
 go_enter Tryz.func135, Tryz.ntmps135
 go_wp2
 go_ret
 exact ⟨rfl, rfl⟩
theorem NY (x : Int) : tF 2 x = rot 4 1073741824 x := rfl
theorem NX (x : Int) : tF 6 x = rot 64 67108864 x := rfl
theorem NW (x : Int) : tF 7 x = rot 128 33554432 x := rfl
theorem KL (x : Int) : tF 11 x = rot 2048 2097152 x := rfl
theorem KK (x : Int) : tF 13 x = rot 8192 524288 x := rfl
theorem KJ (x : Int) : tF 17 x = rot 131072 32768 x := rfl
theorem KI (x : Int) : tF 18 x = rot 262144 16384 x := rfl
theorem KH (x : Int) : tF 19 x = rot 524288 8192 x := rfl
theorem KG (x : Int) : tF 22 x = rot 4194304 1024 x := rfl
theorem KF (x : Int) : tF 25 x = rot 33554432 128 x := rfl
structure BlkAt (B : Nat) (w wr : World) (st : St) (L : List Int) : Prop where
 row : RowIn wr (B + 2) 167 .u32 L
 res : RowIn wr (B + 1) 138 .u32 (List.replicate 8 0)
 hst : RowIn wr B 138 .u32 st.list
 bel : Below B w wr
 size : wr.heap.size = B + 3
theorem BlkAt.drew {B : Nat} {w wr : World} {st : St} {L : List Int} (h : BlkAt B w wr st L) : BlkAt B w wr.drew st L := ⟨h.row, h.res, h.hst, h.bel.drew, h.size⟩
theorem BlkAt.drewN {B : Nat} {w wr : World} {st : St} {L : List Int} (h : BlkAt B w wr st L) (n : Nat) : BlkAt B w (wr.drewN n) st L := ⟨h.row, h.res, h.hst, below_drewN h.bel n, h.size⟩
theorem BlkAt.put {B : Nat} {w wr : World} {st : St} {L : List Int} (h : BlkAt B w wr st L) (i : Nat) (v : Int) : BlkAt B w (wr.setCell ⟨B + 2, i, none⟩ (.int .u32 v)) st (L.set i v) :=
 ⟨h.row.put i v, h.res.put_other _ _ (by simp), h.hst.put_other _ _ (by simp), h.bel.setCell (by simp) _, by simp [World.setCell, h.size]⟩
theorem BlkAt.step {B : Nat} {w wr : World} {st : St} {l : List Int} (h : BlkAt B w wr st (aU 64 l)) (hl : l.length < 64) (v : Int) : BlkAt B w (wr.setCell ⟨B + 2, l.length, none⟩ (.int .u32 v)) st (aU 64 (l ++ [v])) := by
 rw [← eP _ _ _ hl]; exact h.put _ _
theorem BlkAt.start (w : World) (st : St) : BlkAt w.heap.size w (((w.alloc (.cells (st.list.map (Value.int .u32)).toArray 138)).alloc (.cells (Array.replicate 8 (Value.int .u32 0)) 138)).alloc (.cells (Array.replicate 64 (Value.int .u32 0)) 167)) st (aU 64 []) := by
 have h1 := KE w 138 .u32 st.list
 have b1 := aB w (.cells (st.list.map (Value.int .u32)).toArray 138)
 have s1 := aK w (.cells (st.list.map (Value.int .u32)).toArray 138)
 generalize World.alloc w _ = wa at *
 have h2 : RowIn (wa.alloc (.cells (Array.replicate 8 (Value.int .u32 0)) 138)) wa.heap.size 138 .u32 (List.replicate 8 0) := heap_alloc_new _ _
 have b2 := aB wa (.cells (Array.replicate 8 (Value.int .u32 0)) 138)
 have s2 := aK wa (.cells (Array.replicate 8 (Value.int .u32 0)) 138)
 generalize World.alloc wa _ = wb at *
 have h3 : RowIn (wb.alloc (.cells (Array.replicate 64 (Value.int .u32 0)) 167)) wb.heap.size 167 .u32 (aU 64 []) := heap_alloc_new _ _
 have b3 := aB wb (.cells (Array.replicate 64 (Value.int .u32 0)) 167)
 have s3 := aK wb (.cells (Array.replicate 64 (Value.int .u32 0)) 167)
 generalize World.alloc wb _ = wc at *
 exact ⟨by rw [show w.heap.size + 2 = wb.heap.size by omega]; exact h3, by rw [show w.heap.size + 1 = wa.heap.size by omega]; exact h2.below b3 (by omega), (h1.below b2 (by omega)).below b3 (by omega), (b1.trans (b2.mono (by omega))).trans (b3.mono (by omega)), by omega⟩
theorem xE (st : St) : (Tryz.prog.info? 138).map (·.size) = some (st.list.map (Value.int .u32)).toArray.size := by
 rw [List.size_toArray, List.length_map, St.list_length]; kernel_rfl
theorem FA (st : St) : (Array.replicate 8 (Value.int .u32 0)).size = (st.list.map (Value.int .u32)).toArray.size := by simp [St.list_length]
theorem BB (st : St) : ((List.replicate 8 0).map (Value.int .u32)).toArray.size = (st.list.map (Value.int .u32)).toArray.size := by simp [St.list_length]
def IX (st s : St) (k : Nat) : List Int := (List.range 8).map fun i => if i < k then ad (st.list.getD i 0) (s.list.getD i 0) else st.list.getD i 0
theorem vY (st s : St) (k : Nat) : (IX st s k).length = 8 := by simp [IX]
theorem CF (st s : St) : IX st s 0 = st.list := rfl
theorem FX (st s : St) (k : Nat) (hk : k < 8) : (IX st s k).getD k 0 = st.list.getD k 0 := by
 rcases (by omega : k = 0 ∨ k = 1 ∨ k = 2 ∨ k = 3 ∨ k = 4 ∨ k = 5 ∨ k = 6 ∨ k = 7) with rfl | rfl | rfl | rfl | rfl | rfl | rfl | rfl <;> rfl
theorem FW (st s : St) (k : Nat) (hk : k < 8) : (IX st s k).set k (ad (st.list.getD k 0) (s.list.getD k 0)) = IX st s (k + 1) := by
 rcases (by omega : k = 0 ∨ k = 1 ∨ k = 2 ∨ k = 3 ∨ k = 4 ∨ k = 5 ∨ k = 6 ∨ k = 7) with rfl | rfl | rfl | rfl | rfl | rfl | rfl | rfl <;> rfl
theorem Tryz.info49 : (Tryz.prog.info? 138).map (·.size) = some 8 := by kernel_rfl
theorem GW (x0 x1 x2 x3 x4 x5 x6 x7 : Int) (w : World) : (Instr.build 138 #[(0, .int .u32 x0), (1, .int .u32 x1), (2, .int .u32 x2), (3, .int .u32 x3), (4, .int .u32 x4), (5, .int .u32 x5), (6, .int .u32 x6), (7, .int .u32 x7)]).run Tryz.prog w = .ok (.agg #[.int .u32 x0, .int .u32 x1, .int .u32 x2, .int .u32 x3, .int .u32 x4, .int .u32 x5, .int .u32 x6, .int .u32 x7]) w := by kernel_rfl
theorem nI {w : World} {ops : Array Oper} {rest : List Oper} {o : Oper} {a : Act} {Q : Exit → Act → World → Prop} (hgd : o.guard = none) (p x : Operand) (ho : o.op = .store 138 p x)
 (g : Nat) (hp : a.eval p = .pointer (some ⟨g, 0, none⟩)) (x0 x1 x2 x3 x4 x5 x6 x7 : Int) (hx : a.eval x = .agg #[.int .u32 x0, .int .u32 x1, .int .u32 x2, .int .u32 x3, .int .u32 x4, .int .u32 x5, .int .u32 x6, .int .u32 x7])
 (L : List Int) (hrow : RowIn w g 138 .u32 L) (hL : L.length = 8)
 (h : ∀ w', RowIn w' g 138 .u32 [x0, x1, x2, x3, x4, x5, x6, x7] → Below g w w' → wpList Tryz.prog ops Q rest (a.put o.dst undef) w') : wpList Tryz.prog ops Q (o :: rest) a w := by
 refine wpList_store_row hgd 138 p x ho g _ hp hx 138 _ hrow Tryz.info49 (by simp [hL]) (bE .u32 [x0, x1, x2, x3, x4, x5, x6, x7]) ?_
 exact h _ (setRow_heap _ _ _ _ _ _ hrow) (below_setRow (Below.refl _ _) (Nat.le_refl _) _)
def QR (w : World) (st : St) (p : List Int) (e : Ending) (w' : World) : Prop := e = .returned (.agg ((oC st p).list.map (Value.int .u32)).toArray) ∧ Below w.heap.size w w'
theorem DY (bb off cap : Nat) (p : List Int) (st : St) (w : World) (_hcap : 64 ≤ cap)
 (hc : ∀ j, j < 64 → w.cell? ⟨bb, off + j, none⟩ = some (.int .u8 (p.getD j 0))) (hbb : bb < w.heap.size)
 (hp : ∀ j, 0 ≤ p.getD j 0 ∧ p.getD j 0 < 256) :
  Calls Tryz.prog 95 #[.agg (st.list.map (Value.int .u32)).toArray, .slice (some ⟨bb, off, none⟩) 64 cap] w (QR w st p) := by
 have HC := zh hc; clear hc
 have HP := zh hp; clear hp
 have hB := BlkAt.start w st
 have h8 := xE st
 have h8s := FA st
 have h81 := bE .u32 st.list
 obtain ⟨C, hC⟩ : ∃ C, C = (st.list.map (Value.int .u32)).toArray := ⟨_, rfl⟩
 rw [← hC] at hB h8 h8s h81
 rw [← hC]
 have HB := zh hB; have H8 := zh h8; have H8s := zh h8s; have HONE8 := zh h81; have HCC := zh hC
 clear hB h8 h8s h81 hC
 go_enter Tryz.func95, Tryz.ntmps95
 go_wp2_with fail
 go_loopw [6] (fun i wr => ∃ k : Nat, k ≤ 16 ∧ i = .int .i64 k ∧ BlkAt w.heap.size w wr st (aU 64 (msg p k))) (fun i _ => 16 - (intOf i).toNat)
 case atStart => exact ⟨0, by omega, rfl, HB.out⟩
 case round =>
  clear HB
  obtain ⟨k, hk, rfl, hS⟩ := hrel
  by_cases hlt : k < 16
  ·have c0 : wr.cell? ⟨bb, off + 4 * k, none⟩ = some (.int .u8 (p.getD (4 * k) 0)) := (hS.bel.cell (p := ⟨bb, off + 4 * k, none⟩) hbb).trans (HC.out (4 * k) (by omega))
   have c1 : wr.cell? ⟨bb, off + (4 * k + 1), none⟩ = some (.int .u8 (p.getD (4 * k + 1) 0)) := (hS.bel.cell (p := ⟨bb, off + (4 * k + 1), none⟩) hbb).trans (HC.out (4 * k + 1) (by omega))
   have c2 : wr.cell? ⟨bb, off + (4 * k + 2), none⟩ = some (.int .u8 (p.getD (4 * k + 2) 0)) := (hS.bel.cell (p := ⟨bb, off + (4 * k + 2), none⟩) hbb).trans (HC.out (4 * k + 2) (by omega))
   have c3 : wr.cell? ⟨bb, off + (4 * k + 3), none⟩ = some (.int .u8 (p.getD (4 * k + 3) 0)) := (hS.bel.cell (p := ⟨bb, off + (4 * k + 3), none⟩) hbb).trans (HC.out (4 * k + 3) (by omega))
   have b0 := HP.out (4 * k)
   have b1 := HP.out (4 * k + 1)
   have b2 := HP.out (4 * k + 2)
   have b3 := HP.out (4 * k + 3)
   generalize e0 : p.getD (4 * k) 0 = x0 at *
   generalize e1 : p.getD (4 * k + 1) 0 = x1 at *
   generalize e2 : p.getD (4 * k + 2) 0 = x2 at *
   generalize e3 : p.getD (4 * k + 3) 0 = x3 at *
   have E : Hid (wd p k = bits .or .u32 (bits .or .u32 (bits .or .u32 (x0 * 16777216) (x1 * 65536)) (x2 * 256)) x3) := by
    subst e0 e1 e2 e3; rfl
   clear e0 e1 e2 e3
   have hl : (aU 64 (msg p k)).length = 64 := cU _ _ (by rw [bX]; omega)
   have ct := hS.row.get k (by omega)
   have cf := hS.row.free k
   clear hl
   have w0 : IntKind.i64.wrap (4 * (k : Int)) = 4 * (k : Int) := by rw [IntKind.wrap_i64]; omega
   have w1 : IntKind.i64.wrap (4 * (k : Int) + 1) = 4 * (k : Int) + 1 := by rw [IntKind.wrap_i64]; omega
   have w2 : IntKind.i64.wrap (4 * (k : Int) + 2) = 4 * (k : Int) + 2 := by rw [IntKind.wrap_i64]; omega
   have w3 : IntKind.i64.wrap (4 * (k : Int) + 3) = 4 * (k : Int) + 3 := by rw [IntKind.wrap_i64]; omega
   go_wp2_with fail
   go_region
   go_wp2
   go_roundw
   case rel =>
    refine ⟨k + 1, by omega, by go_num, ?_⟩
    have hs := (hS.step (by rw [bX]; omega) (wd p k)).drew
    rw [bX, ← xR, E.out] at hs
    exact hs
   case measure => simp [intOf]; omega
  ·obtain rfl : k = 16 := by omega
   rw [show ((16 : Nat) : Int) = 16 from rfl]
   go_wp2
   go_loopw [7] (fun i wr => ∃ k : Nat, k ≤ 48 ∧ i = .int .i64 ((k : Int) + 16) ∧ BlkAt w.heap.size w wr st (aU 64 (dD (msg p 16) k))) (fun i _ => 64 - (intOf i).toNat)
   case atStart => exact ⟨0, by omega, rfl, hS⟩
   case round =>
    clear hS
    obtain ⟨k, hk, rfl, hS⟩ := hrel
    by_cases hlt : k < 48
    ·have hl : (aU 64 (dD (msg p 16) k)).length = 64 := cU _ _ (by rw [cI, bX]; omega)
     have c0 := hS.row.get k (by omega)
     have c1 := hS.row.get (k + 1) (by omega)
     have c9 := hS.row.get (k + 9) (by omega)
     have c14 := hS.row.get (k + 14) (by omega)
     have c16 := hS.row.get (k + 16) (by omega)
     have cf := hS.row.free (k + 16)
     have E : Hid (vD (dD (msg p 16) k) k = ad (ad (ad ((aU 64 (dD (msg p 16) k)).getD k 0) (sm0 ((aU 64 (dD (msg p 16) k)).getD (k + 1) 0))) ((aU 64 (dD (msg p 16) k)).getD (k + 9) 0)) (sm1 ((aU 64 (dD (msg p 16) k)).getD (k + 14) 0))) := by
      have hn : (dD (msg p 16) k).length = k + 16 := by rw [cI, bX]; omega
      rw [dX _ _ _ (by omega), dX _ _ _ (by omega), dX _ _ _ (by omega), dX _ _ _ (by omega)]; rfl
     clear hl
     generalize (aU 64 (dD (msg p 16) k)).getD k 0 = y0 at *
     generalize (aU 64 (dD (msg p 16) k)).getD (k + 1) 0 = y1 at *
     generalize (aU 64 (dD (msg p 16) k)).getD (k + 9) 0 = y9 at *
     generalize (aU 64 (dD (msg p 16) k)).getD (k + 14) 0 = y14 at *
     generalize (aU 64 (dD (msg p 16) k)).getD (k + 16) 0 = y16 at *
     go_wp2_with fail
     go_quiet ((go_at_call 135; exact gF (nT _ _ _ (by omega) (by omega))))
     obtain ⟨nq1, hnq1⟩ : ∃ m, m = nq := ⟨_, rfl⟩
     rw [← hnq1]
     clear hnq1
     generalize hw2 : wr.drewN nq1 = wq
     have HW2 := zh hw2
     have d0 : wq.cell? ⟨w.heap.size + 2, k, none⟩ = some (.int .u32 y0) := by rw [← hw2]; exact c0
     have d9 : wq.cell? ⟨w.heap.size + 2, k + 9, none⟩ = some (.int .u32 y9) := by rw [← hw2]; exact c9
     have d14 : wq.cell? ⟨w.heap.size + 2, k + 14, none⟩ = some (.int .u32 y14) := by rw [← hw2]; exact c14
     have d16 : wq.cell? ⟨w.heap.size + 2, k + 16, none⟩ = some (.int .u32 y16) := by rw [← hw2]; exact c16
     have df : wq.frozen? ⟨w.heap.size + 2, k + 16, none⟩ = false := by rw [← hw2]; exact cf
     clear hw2 c0 c1 c9 c14 c16 cf
     go_wp2_with fail
     go_quiet ((go_at_call 135; exact gF (nT _ _ _ (by omega) (by omega))))
     go_wp2_with fail
     go_region
     go_wp2
     go_roundw
     case rel =>
      refine ⟨k + 1, by omega, by go_num, ?_⟩
      have hn : (dD (msg p 16) k).length = k + 16 := by rw [cI, bX]; omega
      have hs := ((hS.drewN nq1).drewN (nq + 1)).step (by omega) (vD (dD (msg p 16) k) k)
      rw [hn, E.out] at hs
      have hu : dD (msg p 16) (k + 1) = dD (msg p 16) k ++ [vD (dD (msg p 16) k) k] := rfl
      rw [hu, E.out, ← HW2.out]
      simpa [ad, sm0, sm1, xr, NW, KI, KJ, KH] using hs
     case measure => simp [intOf]; omega
    ·obtain rfl : k = 48 := by omega
     have hfull : aU 64 (dD (msg p 16) 48) = iJ p := gI _ _ (by rw [cI, bX])
     rw [hfull] at hS
     rw [show (((48 : Nat) : Int) + 16) = 64 from rfl]
     go_wp2_with fail
     refine (sD wr).mono ?_
     rintro e w1 ⟨rfl, hb1⟩
     have hs1 := hb1.size
     have HSZ := zh hS.size
     have hsz : w.heap.size + 3 ≤ wr.heap.size := by rw [HSZ.out]; exact Nat.le_refl _
     have hw1 := hS.row.below hb1 (by omega)
     have hst1 := hS.hst.below hb1 (by omega)
     have hres1 := hS.res.below hb1 (by omega)
     have hbe1 := hS.bel.trans (hb1.mono hS.bel.size)
     clear hS hb1
     have HK := zh (heap_alloc_new w1 (.cells (Array.replicate 64 (Value.int .u32 0)) 167))
     have HIK : Hid ((Tryz.prog.info? 167).map (·.size) = some iP.size) := Tryz.info64u
     have HSK : Hid ((Array.replicate 64 (Value.int .u32 0)).size = iP.size) := by show _ = _; simp [iP, kC]
     have HKO := zh qP
     have hka : iP = (kay.map (Value.int .u32)).toArray := rfl
     have HKA := zh hka
     clear hka
     generalize iP = KA at *
     go_wp2_with (first
      | (refine wpList_store_row rfl 167 _ _ rfl w1.heap.size KA rfl rfl 167 _ HK.out HIK.out HSK.out HKO.out ?_; generalize hw2 : World.setRow _ _ _ = w2; have hb2 : Below w1.heap.size w1 w2 := (by rw [← hw2]; exact below_setRow (aB _ _) (Nat.le_refl _) _); have hk2 : RowIn w2 w1.heap.size 167 .u32 kay := (by rw [← hw2]; unfold RowIn; rw [← HKA.out]; exact setRow_heap _ _ _ _ _ _ HK.out); have HS2 := zh (show w2.heap.size = w1.heap.size + 1 by rw [← hw2]; simp); have hst2 : w2.heap[w.heap.size]? = some (.cells C 138 (0, 0)) := (by rw [HCC.out]; exact hst1.below hb2 (by omega)); have HST2 := zh hst2; have HA := zh (heap_alloc_new w2 (.cells (Array.replicate 8 (Value.int .u32 0)) 138)); clear hw2 hst2)
      | (refine wpList_load_row rfl 138 _ rfl w.heap.size rfl 138 _ (0, 0) _ HST2.out Tryz.underlying138 rfl H8.out ?_)
      | (refine wpList_store_row rfl 138 _ _ rfl w2.heap.size _ rfl rfl 138 _ HA.out H8.out H8s.out HONE8.out ?_; generalize hw3 : World.setRow _ _ _ = w3))
     have hr3 : RowIn w3 w2.heap.size 138 .u32 st.list := by rw [← hw3]; show _ = _; rw [← HCC.out]; exact setRow_heap _ _ _ _ _ _ HA.out
     have hb3 : Below w2.heap.size w2 w3 := by rw [← hw3]; exact below_setRow (aB _ _) (Nat.le_refl _) _
     have hs2' : w1.heap.size < w2.heap.size := by rw [HS2.out]; omega
     have hk3 := hk2.below hb3 (by omega)
     have hw3' := (hw1.below hb2 (by omega)).below hb3 (by omega)
     have hst3 : RowIn w3 w.heap.size 138 .u32 st.list := (hst1.below hb2 (by omega)).below hb3 (by omega)
     have hres3 := (hres1.below hb2 (by omega)).below hb3 (by omega)
     have hbe3 := (hbe1.trans (hb2.mono hbe1.size)).trans (hb3.mono (by omega))
     clear hw3 hst1 hres1 hw1 hbe1 hk2 hb2 hb3 HST2 HA HK HIK HSK HKO HKA HS2
     have hidx : w.heap.size + 3 ≤ w1.heap.size := by omega
     have HK3 := zh hk3; have HW3 := zh hw3'; have HST3 := zh hst3; have PN := zh hres3; have HBE3 := zh hbe3; have NE := zh hidx; have HR3 := zh hr3; have HS2L := zh hs2'
     clear hk3 hw3' hst3 hres3 hbe3 hidx hr3 hs1 hsz hs2' hfull
     go_loopw [12] (fun i wr => ∃ k : Nat, k ≤ 64 ∧ i = .int .i64 k ∧ RowIn wr w2.heap.size 138 .u32 (FL (iJ p) st k).list ∧ Below w2.heap.size w3 wr) (fun i _ => 64 - (intOf i).toNat)
     case atStart => exact ⟨0, by omega, rfl, HR3.out, Below.refl _ _⟩
     case round =>
      clear HR3
      obtain ⟨k, hk64, rfl, hrow, hber⟩ := hrel
      by_cases hlt3 : k < 64
      ·have hkc := (HK3.out.below hber HS2L.out).get k (by rw [kC]; exact hlt3)
       have hwc := (HW3.out.below hber (by have := NE.out; have := HS2L.out; omega)).get k (by rw [hU]; exact hlt3)
       have E : Hid (FL (iJ p) st (k + 1) = rnd (kay.getD k 0) ((iJ p).getD k 0) (FL (iJ p) st k)) := rfl
       generalize kay.getD k 0 = kk at *
       generalize (iJ p).getD k 0 = ww at *
       generalize FL (iJ p) st k = s at *
       obtain ⟨sa, sb, sc, sd, se, sf, sg, sh⟩ := s
       have pa : wr.cell? ⟨w2.heap.size, 0, none⟩ = some (.int .u32 sa) := by exact hrow.get 0 (by simp [St.list])
       have pb : wr.cell? ⟨w2.heap.size, 1, none⟩ = some (.int .u32 sb) := by exact hrow.get 1 (by simp [St.list])
       have pc : wr.cell? ⟨w2.heap.size, 2, none⟩ = some (.int .u32 sc) := by exact hrow.get 2 (by simp [St.list])
       have pd : wr.cell? ⟨w2.heap.size, 3, none⟩ = some (.int .u32 sd) := by exact hrow.get 3 (by simp [St.list])
       have pe : wr.cell? ⟨w2.heap.size, 4, none⟩ = some (.int .u32 se) := by exact hrow.get 4 (by simp [St.list])
       have pf : wr.cell? ⟨w2.heap.size, 5, none⟩ = some (.int .u32 sf) := by exact hrow.get 5 (by simp [St.list])
       have pg : wr.cell? ⟨w2.heap.size, 6, none⟩ = some (.int .u32 sg) := by exact hrow.get 6 (by simp [St.list])
       have ph : wr.cell? ⟨w2.heap.size, 7, none⟩ = some (.int .u32 sh) := by exact hrow.get 7 (by simp [St.list])
       have pk : wr.cell? ⟨w1.heap.size, k, none⟩ = some (.int .u32 kk) := by exact hkc
       have pw : wr.cell? ⟨w.heap.size + 2, k, none⟩ = some (.int .u32 ww) := by exact hwc
       have yQ := zh hrow; clear hkc hwc hrow
       have hc0 : decide ((k : Int) < 64) = true := by simp; omega
       go_wp2_with fail
       go_quiet ((go_at_call 135; exact gF (nT _ _ _ (by omega) (by omega))))
       generalize hv13 : bits .xor .u32 (bits .xor .u32 (tF 6 se) (tF 11 se)) (tF 25 se) = v13
       have HV13 := zh hv13; clear hv13
       generalize hq1 : wr.drewN _ = q1
       have qa : q1.cell? ⟨w2.heap.size, 0, none⟩ = some (.int .u32 sa) := by rw [← hq1]; exact pa
       have qb : q1.cell? ⟨w2.heap.size, 1, none⟩ = some (.int .u32 sb) := by rw [← hq1]; exact pb
       have qc : q1.cell? ⟨w2.heap.size, 2, none⟩ = some (.int .u32 sc) := by rw [← hq1]; exact pc
       have qd : q1.cell? ⟨w2.heap.size, 3, none⟩ = some (.int .u32 sd) := by rw [← hq1]; exact pd
       have qe : q1.cell? ⟨w2.heap.size, 4, none⟩ = some (.int .u32 se) := by rw [← hq1]; exact pe
       have qf : q1.cell? ⟨w2.heap.size, 5, none⟩ = some (.int .u32 sf) := by rw [← hq1]; exact pf
       have qg : q1.cell? ⟨w2.heap.size, 6, none⟩ = some (.int .u32 sg) := by rw [← hq1]; exact pg
       have qh : q1.cell? ⟨w2.heap.size, 7, none⟩ = some (.int .u32 sh) := by rw [← hq1]; exact ph
       have qk : q1.cell? ⟨w1.heap.size, k, none⟩ = some (.int .u32 kk) := by rw [← hq1]; exact pk
       have qw : q1.cell? ⟨w.heap.size + 2, k, none⟩ = some (.int .u32 ww) := by rw [← hq1]; exact pw
       have HQ1 : Hid (RowIn q1 w2.heap.size 138 .u32 [sa, sb, sc, sd, se, sf, sg, sh]) := by show _ = _; rw [← hq1]; exact yQ.out
       have hbq1 : Below w2.heap.size w3 q1 := by rw [← hq1]; exact below_drewN hber _
       clear pa pb pc pd pe pf pg ph pk pw
       clear hq1 hber yQ
       go_wp2_with fail
       go_quiet (fail)
       generalize hv14 : (_ : Int) % 4294967296 = v14
       have HV14 := zh hv14; clear hv14
       generalize hq2 : q1.drewN _ = q2
       have ra : q2.cell? ⟨w2.heap.size, 0, none⟩ = some (.int .u32 sa) := by rw [← hq2]; exact qa
       have rb : q2.cell? ⟨w2.heap.size, 1, none⟩ = some (.int .u32 sb) := by rw [← hq2]; exact qb
       have rc : q2.cell? ⟨w2.heap.size, 2, none⟩ = some (.int .u32 sc) := by rw [← hq2]; exact qc
       have rd : q2.cell? ⟨w2.heap.size, 3, none⟩ = some (.int .u32 sd) := by rw [← hq2]; exact qd
       have re : q2.cell? ⟨w2.heap.size, 4, none⟩ = some (.int .u32 se) := by rw [← hq2]; exact qe
       have rf : q2.cell? ⟨w2.heap.size, 5, none⟩ = some (.int .u32 sf) := by rw [← hq2]; exact qf
       have rg : q2.cell? ⟨w2.heap.size, 6, none⟩ = some (.int .u32 sg) := by rw [← hq2]; exact qg
       have rh : q2.cell? ⟨w2.heap.size, 7, none⟩ = some (.int .u32 sh) := by rw [← hq2]; exact qh
       have rk : q2.cell? ⟨w1.heap.size, k, none⟩ = some (.int .u32 kk) := by rw [← hq2]; exact qk
       have rw : q2.cell? ⟨w.heap.size + 2, k, none⟩ = some (.int .u32 ww) := by rw [← hq2]; exact qw
       have HQ2 : Hid (RowIn q2 w2.heap.size 138 .u32 [sa, sb, sc, sd, se, sf, sg, sh]) := by show _ = _; rw [← hq2]; exact HQ1.out
       have hbq2 : Below w2.heap.size w3 q2 := by rw [← hq2]; exact below_drewN hbq1 _
       clear qa qb qc qd qe qf qg qh qk qw
       clear hq2 hbq1 HQ1
       go_wp2_with fail
       go_quiet ((go_at_call 135; exact gF (nT _ _ _ (by omega) (by omega))))
       generalize hv15 : bits .xor .u32 (bits .xor .u32 (tF 2 sa) (tF 13 sa)) (tF 22 sa) = v15
       have HV15 := zh hv15; clear hv15
       generalize hq3 : q2.drewN _ = q3
       have ta : q3.cell? ⟨w2.heap.size, 0, none⟩ = some (.int .u32 sa) := by rw [← hq3]; exact ra
       have tb : q3.cell? ⟨w2.heap.size, 1, none⟩ = some (.int .u32 sb) := by rw [← hq3]; exact rb
       have tc : q3.cell? ⟨w2.heap.size, 2, none⟩ = some (.int .u32 sc) := by rw [← hq3]; exact rc
       have td : q3.cell? ⟨w2.heap.size, 3, none⟩ = some (.int .u32 sd) := by rw [← hq3]; exact rd
       have te : q3.cell? ⟨w2.heap.size, 4, none⟩ = some (.int .u32 se) := by rw [← hq3]; exact re
       have tf : q3.cell? ⟨w2.heap.size, 5, none⟩ = some (.int .u32 sf) := by rw [← hq3]; exact rf
       have tg : q3.cell? ⟨w2.heap.size, 6, none⟩ = some (.int .u32 sg) := by rw [← hq3]; exact rg
       have th : q3.cell? ⟨w2.heap.size, 7, none⟩ = some (.int .u32 sh) := by rw [← hq3]; exact rh
       have tk : q3.cell? ⟨w1.heap.size, k, none⟩ = some (.int .u32 kk) := by rw [← hq3]; exact rk
       have tw : q3.cell? ⟨w.heap.size + 2, k, none⟩ = some (.int .u32 ww) := by rw [← hq3]; exact rw
       have HQ3 : Hid (RowIn q3 w2.heap.size 138 .u32 [sa, sb, sc, sd, se, sf, sg, sh]) := by show _ = _; rw [← hq3]; exact HQ2.out
       have hbq3 : Below w2.heap.size w3 q3 := by rw [← hq3]; exact below_drewN hbq2 _
       clear ra rb rc rd re rf rg rh rk rw
       clear hq3 hbq2 HQ2
       have hbv := GW
       go_wp2_with (refine nI rfl _ _ rfl w2.heap.size rfl _ _ _ _ _ _ _ _ rfl _ HQ3.out rfl ?_; intro q4 hr4 hb4)
       have hbq4 : Below w2.heap.size w3 q4 := hbq3.trans (hb4.mono (Nat.le_refl _))
       have HR4 := zh hr4
       clear hr4 hb4
       go_wp2
       go_roundw
       case rel =>
        refine ⟨k + 1, by omega, by go_num, ?_, hbq4⟩
        rw [E.out]
        have hr := HR4.out
        rw [← HV15.out, ← HV14.out, ← HV13.out] at hr
        have hsg : (if IntKind.u32.signed = true then (-1 : Int) else IntKind.u32.max) = IntKind.u32.max := rfl
        simpa [rnd, St.list, tOne, tTwo, ad, big0, big1, chs, mjr, xr, an, NX, KL, KF, NY, KK, KG, Int.add_assoc, hsg] using hr
       case measure => simp [intOf]; omega
      ·obtain rfl : k = 64 := by omega
       have hc0 : decide (((64 : Nat) : Int) < 64) = false := by decide
       have hidx := NE.out
       have hs2' := HS2L.out
       have hst4 := HST3.out.below hber (by omega)
       have hres4 := PN.out.below hber (by omega)
       have hbe4 := HBE3.out.trans (hber.mono (by omega))
       have hsz4 := hrow.lt
       have HWW : Hid (w.heap.size ≤ wr.heap.size) := by show _ ≤ _; omega
       have hne : w2.heap.size ≠ w.heap.size := by omega
       have hne1 : w.heap.size + 1 ≠ w.heap.size := by omega
       rw [show ((64 : Nat) : Int) = 64 from rfl] at hc0
       rw [show ((64 : Nat) : Int) = 64 from rfl]
       have HC0 := zh hc0; clear hc0 HK3 HW3 HST3 PN HBE3 hber NE HS2L hidx hs2'
       go_wp2_with fail
       generalize hs64 : FL (iJ p) st 64 = s at *
       have HS64 := zh hs64; clear hs64
       go_loopw [17] (fun i wz => ∃ k : Nat, k ≤ 8 ∧ i = .int .i64 k ∧ RowIn wz w.heap.size 138 .u32 (IX st s k) ∧ wr.grownBy wz (some w.heap.size)) (fun i _ => 8 - (intOf i).toNat)
       case atStart => exact ⟨0, by omega, rfl, by rw [CF]; exact hst4, World.grownBy.refl _ _⟩
       case round =>
        obtain ⟨k, hk8, rfl, hrw, hgr⟩ := hrel
        by_cases hlt4 : k < 8
        ·have hc1 : decide ((k : Int) < 8) = true := by simp; omega
         have c1 := hrw.get k (by rw [vY]; exact hlt4)
         have f1 := hrw.free k
         have c2 := (hrow.grown hgr hne).get k (by rw [St.list_length]; exact hlt4)
         have e1 := FX st s k hlt4
         rw [e1] at c1
         clear e1
         generalize hx : st.list.getD k 0 = x at *
         generalize hy : s.list.getD k 0 = y at *
         have HX := zh hx; have HY := zh hy; clear hx hy
         go_wp2_with fail
         go_region
         go_wp2
         go_roundw
         case rel =>
          refine ⟨k + 1, by omega, by go_num, ?_, cG (cE hgr _ _)⟩
          have := (hrw.put k (ad x y)).drew
          rw [← HX.out, ← HY.out, FW st s k hlt4] at this
          rw [← HX.out, ← HY.out]
          exact this
         case measure => simp [intOf]; omega
        ·obtain rfl : k = 8 := by omega
         have hfin : IX st s 8 = (⟨ad st.a s.a, ad st.b s.b, ad st.c s.c, ad st.d s.d, ad st.e s.e, ad st.f s.f, ad st.g s.g, ad st.h s.h⟩ : St).list := rfl
         rw [hfin] at hrw
         clear hfin
         have hres5 := hres4.grown hgr hne1
         have hbe5 := hbe4.trans (bB hgr HWW.out)
         have hc1 : decide ((8 : Int) < 8) = false := by decide
         have HRW := zh hrw; have AH := zh hres5
         have hcomp : oC st p = ⟨ad st.a s.a, ad st.b s.b, ad st.c s.c, ad st.d s.d, ad st.e s.e, ad st.f s.f, ad st.g s.g, ad st.h s.h⟩ := by unfold oC; rw [HS64.out]
         have QG := zh hcomp
         clear hrw hres5 hres4 hbe4 hst4 hrow hgr hcomp
         rw [show ((8 : Nat) : Int) = 8 from rfl]
         obtain ⟨t, ht⟩ : ∃ t : St, t = ⟨ad st.a s.a, ad st.b s.b, ad st.c s.c, ad st.d s.d, ad st.e s.e, ad st.f s.f, ad st.g s.g, ad st.h s.h⟩ := ⟨_, rfl⟩
         rw [← ht] at HRW QG
         clear ht
         have HI8 := zh (xE t); have HS8 := zh (BB t); have HO8 := zh (bE .u32 t.list)
         go_wp2_with (first
          | (refine wpList_load_row rfl 138 _ rfl w.heap.size rfl 138 _ (0, 0) _ HRW.out Tryz.underlying138 rfl HI8.out ?_)
          | (refine wpList_store_row rfl 138 _ _ rfl (w.heap.size + 1) _ rfl rfl 138 _ AH.out HI8.out HS8.out HO8.out ?_))
         exact bodyPost_ret (results_cell_row (P := Tryz.prog) rfl _ _ (w.heap.size + 1) 138 _ (0, 0) _ rfl (setRow_heap _ _ _ _ _ _ AH.out) Tryz.underlying138 rfl HI8.out) rfl ⟨by rw [QG.out], below_setRow hbe5 (by omega) _⟩
theorem eD {P : Program} {w : World} {ops : Array Oper} {rest : List Oper} {o : Oper} {a : Act} {Q : Exit → Act → World → Prop} (hgd : o.guard = none) (t e : TypeId)
 (ho : o.op = .buildSlice t 0 #[]) (hrun : ∀ w, (Instr.buildSlice t 0 #[]).run P w = .ok (.slice (some ⟨w.heap.size, 0, none⟩) 0 0) (w.alloc (.cells #[] e)))
 (h : ∀ v0 w0, Hid (v0 = .slice (some ⟨w.heap.size, 0, none⟩) 0 0) → Hid (w0 = w.alloc (.cells #[] e)) → wpList P ops Q rest (a.put o.dst v0) w0) : wpList P ops Q (o :: rest) a w := by
 refine wpList_plain hgd fun K hK => ?_
 have hk := hK _ _ (h _ _ rfl rfl)
 have hr := hrun w
 unfold Oper.wp execOp
 simp only [ho]
 simp [hr]
 exact hk
theorem zS {w : World} {base e size : Nat} {v : Value} {n : Nat} {xs : List Value} (h : w.ownsRow base e size v n xs) : ∃ sp cap, v = .slice sp n cap := by
 obtain ⟨_, ⟨rfl, rfl⟩ | ⟨g, cap, cur, rfl, _⟩⟩ := h
 ·exact ⟨none, 0, rfl⟩
 ·exact ⟨_, cap, rfl⟩
theorem iN {w : World} {base e size : Nat} {v : Value} {n : Nat} {xs : List Value} (h : w.ownsRow base e size v n xs) : ∀ k, v.ownBlock = some k → base ≤ k := fun k hk => (h.lt k hk).1
theorem eS {P : Program} {w : World} {ops : Array Oper} {rest : List Oper} {o : Oper} {a : Act} {Q : Exit → Act → World → Prop} (hgd : o.guard = none) (s x : Operand) (t e : TypeId)
 (ho : o.op = .call { callee := .builtin .append, args := #[s, x], argTypes := #[t, t] }) (ht : P.underlying t = some (.slice e)) (hi : (P.info? e).map (fun i => (i.zero, i.size, i.bytes)) = some (some (.int .u8 0), 1, 1))
 (base : Nat) (v : Value) (xs : List Int) (n : Nat) (hs : a.eval s = v) (hn : n = xs.length) (hown : w.ownsRow base e 1 v n (xs.map (Value.int .u8)))
 (g : Nat) (y : Int) (hx : a.eval x = .slice (some ⟨g, 0, none⟩) 1 1) (hc : w.cell? ⟨g, 0, none⟩ = some (.int .u8 y))
 (hlen : n ≤ 2199023255552) (hbase : base ≤ w.heap.size)
 (h : ∀ sp cap w', Hid (w'.ownsRow base e 1 (.slice sp (n + 1) cap) (n + 1) ((xs ++ [y]).map (Value.int .u8))) → w.grownBy w' v.ownBlock → wpList P ops Q rest (a.put o.dst (.slice sp (n + 1) cap)) w') : wpList P ops Q (o :: rest) a w := by
 obtain ⟨i0, hi0, hz0, hz1, hz2⟩ := info_parts hi
 refine wpList_append_own w hgd s x t ho base e i0 (.int .u8 0) 1 1 ht hi0 hz0 hz1 hz2 rfl (by decide) v n _ hs hown ⟨g, 0, none⟩ 1 1 [.int .u8 y] hx rfl ?_ (by intro u hu; simp at hu; subst hu; rfl) (by unfold maxLen; omega) (by omega) hbase ?_
 ·intro j u hj
  match j, hj with
  | 0, hj => simp at hj; subst hj; rw [Addr.add_mid]; exact hc
 ·intro v' w' h1 h2 _
  obtain ⟨sp, cap, rfl⟩ := zS h1
  exact h sp cap w' (by show World.ownsRow _ _ _ _ _ _ _; rw [List.map_append]; exact h1) h2
def AM (n : Nat) : Nat := (119 - n % 64) % 64
theorem BX (l : List Int) : pad l = l ++ [128] ++ List.replicate (AM l.length) 0 ++ qO ((l.length : Int) * 8) := by
 unfold pad AM; rw [Int.mul_comm]; simp
theorem CI (M : Int) (m : Nat) (hm : m < 8) : (qO M).take (8 - (m + 1)) ++ [lb M m] = (qO M).take (8 - m) := by
 rcases (by omega : m = 0 ∨ m = 1 ∨ m = 2 ∨ m = 3 ∨ m = 4 ∨ m = 5 ∨ m = 6 ∨ m = 7) with rfl | rfl | rfl | rfl | rfl | rfl | rfl | rfl <;> rfl
theorem KW {l : List Int} (h : Byt l) : Byt (pad l) := fun x hx => by
 unfold pad at hx
 rcases List.mem_append.1 hx with hx | hx
 ·exact h x hx
 ·rcases List.mem_cons.1 hx with rfl | hx
  ·omega
  ·rcases List.mem_append.1 hx with hx | hx
   ·rw [List.eq_of_mem_replicate hx]; omega
   ·exact FZ _ x hx
theorem jM {w w' : World} {b o B n : Nat} (h : w.there b o n) (hb : Below B w w') (hlt : b < B) : w'.there b o n := fun j hj => by
 rw [hb.cell (p := ⟨b, o + j, none⟩) hlt, hb.frozen (p := ⟨b, o + j, none⟩) hlt]; exact h j hj
theorem NP {w : World} {b : Nat} {L0 : List Int} (h : RowIn w b 138 .u32 L0) (h0 : L0.length = 8) (L : List Int) (hL : L.length = 8) (A : Array Value) (hA : A = (L.map (Value.int .u32)).toArray) : (storeCells ⟨b, 0, none⟩ A.toList).run Tryz.prog w = .ok () (w.setRow b A) := by
 subst hA
 have hl : (L.map (Value.int .u32)).toArray.toList.length = 8 := by simp [hL]
 have := run_storeCells_at Tryz.prog b 0 138 (L.map (Value.int .u32)).toArray.toList 0 _ w h (by rw [hl]; simp [h0]) (fun v hv => (Array.all_eq_true_iff_forall_mem.1 (bE .u32 L)) v (by simpa using hv))
 rw [this]
 have e : ((L0.map (Value.int .u32)).toArray.toList.take (0 + 0) ++ (L.map (Value.int .u32)).toArray.toList ++ (L0.map (Value.int .u32)).toArray.toList.drop (0 + 0 + (L.map (Value.int .u32)).toArray.toList.length)).toArray = (L.map (Value.int .u32)).toArray := by
  rw [List.drop_eq_nil_of_le (by rw [hl]; simp [h0])]; simp
 rw [e]
theorem by4 (l : List Int) (k : Nat) (h : k / 4 < l.length) : (aT l).getD k 0 = (wb (l.getD (k / 4) 0)).getD (k % 4) 0 := by
 induction l generalizing k with
 | nil => simp at h
 | cons x r ih =>
   by_cases hk : k < 4
   ·rcases (by omega : k = 0 ∨ k = 1 ∨ k = 2 ∨ k = 3) with rfl | rfl | rfl | rfl <;> rfl
   ·obtain ⟨j, rfl⟩ : ∃ j, k = j + 4 := ⟨k - 4, by omega⟩
    have h2 : (j + 4) / 4 = j / 4 + 1 := by omega
    have h3 : (j + 4) % 4 = j % 4 := by omega
    rw [h2] at h ⊢
    rw [h3]
    have := ih j (by simpa using h)
    rw [List.getD_cons_succ, ← this]
    rfl
theorem LS (L : List Int) (hL : L.length = 32) (k : Nat) (h : k < 32) : (aU 32 (L.take k)).set k (L.getD k 0) = aU 32 (L.take (k + 1)) := by
 have hk : (L.take k).length = k := by simp; omega
 have := eP 32 (L.take k) (L.getD k 0) (by omega)
 rw [hk] at this
 rw [this, qA L k (by omega)]
theorem mH (sp : Option Addr) (n cap : Nat) (b : List Int) (w : World) (hs : Src w w.heap.size sp n cap b) (hnil : sp = none → cap = 0) (hbd : n ≤ 1099511627776) :
 Calls Tryz.prog 65 #[.slice sp n cap] w (EC w b) := by
 have HS := zh hs; have uY := zh hnil; clear hs hnil
 have nO := zh HS.out.len
 have HN := zh (NewZ.new w)
 have HRB := zh (fun w : World => (show (Instr.buildSlice 22 0 #[]).run Tryz.prog w = .ok (.slice (some ⟨w.heap.size, 0, none⟩) 0 0) (w.alloc (.cells #[] 5)) by kernel_rfl))
 go_enter Tryz.func65, Tryz.ntmps65
 go_wp2_with (first
  | (refine eD rfl 22 5 rfl HRB.out ?_; generalize hw0 : World.alloc w _ = w0; have HN0 := (by rw [← hw0]; exact HN : Hid (NewZ w w0)); clear hw0; intro v1 w1 hv1 hw1; have hb1 : Below w0.heap.size w0 w1 := (by rw [hw1.out]; exact aB _ _); have HO1 : Hid (w1.ownsRow w0.heap.size 5 1 v1 0 []) := (by rw [hv1.out, hw1.out]; exact World.ownsRow_made w0 #[] 0 (Nat.le_refl _) (by unfold maxLen; omega) rfl); have hs01 := hb1.size; have HSR := zh (HS.out.below (HN0.out.b.trans (hb1.mono HN0.out.b.size)) (Nat.le_refl _)))
  | (at_builtin; refine eE rfl (.tmp 10) (.tmp 11) 22 5 rfl Tryz.underlying22 Tryz.info5a w0.heap.size _ [] rfl HO1.out _ _ _ b (by rw [nO.out]; rfl) (by rw [nO.out]; exact HSR.out) uY.out (by rw [nO.out]; simp; omega) hs01 ?_; intro v2 w2 hown2 hg2 hx2; clear hx2; have hb2 := hb1.grown hg2 hs01 (iN HO1.out); have hs02 := hb2.size)
  | (at_builtin; refine eS rfl (.tmp 12) (.tmp 13) 22 5 rfl Tryz.underlying22 Tryz.info5a w0.heap.size _ b n rfl nO.out.symm (by have := hown2.out.alloc (.cells #[.int .u8 128] 5); rw [← nO.out]; exact this) w2.heap.size 128 rfl (by simp) (by omega) (by simp; omega) ?_; intro sp3 cap3 w3 hown3 hg3; have hb3 := (hb2.alloc hs02 _).grown hg3 (by simp; omega) (iN hown2.out); have hs03 := hb3.size))
 have PQ := hown3
 clear hown3 hown2 HO1 hb1 hb2 hs01 hs02 hg2 hg3 HSR HRB hv1 hw1
 have hb3' := hb3
 go_loopg [3] (AM n) (fun g v wr => ∃ (j N : Nat) (sp : Option Addr) (cap : Nat), Hid (j + g = AM n) ∧ Hid (N = n + 1 + j) ∧ N ≤ n + 65 ∧ v = .slice sp N cap ∧ Hid (wr.ownsRow w0.heap.size 5 1 (.slice sp N cap) N ((b ++ [128] ++ List.replicate j 0).map (Value.int .u8))) ∧ Below w0.heap.size w0 wr)
 case atStart => exact ⟨0, n + 1, sp3, cap3, by show _ = _; omega, rfl, by omega, rfl, by show World.ownsRow _ _ _ _ _ _ _; simpa using PQ.out, hb3⟩
 case round =>
  clear PQ hb3 hb3' hs03
  obtain ⟨j, N, sp4, cap4, hjg, hN, hN2, rfl, hown, hbe⟩ := hrel
  have hbs := hbe.size
  by_cases hj : j < AM n
  ·have hm1 : ((((N : Nat) : Int) % 64) != 56) = true := by
    rw [bne_iff_ne]; have := hN.out; unfold AM at hj; omega
   have hm2 : ((Int.tmod ((N : Nat) : Int) 64) != 56) = true := by rw [Int.tmod_eq_emod_of_nonneg (by omega)]; exact hm1
   go_wp2_with (at_builtin; refine eS rfl (.tmp 19) (.tmp 20) 22 5 rfl Tryz.underlying22 Tryz.info5a w0.heap.size _ (b ++ [128] ++ List.replicate j 0) N rfl (by rw [hN.out, List.length_append, List.length_append, nO.out, List.length_replicate]; rfl) (hown.out.alloc _) wr.heap.size 0 rfl (by simp) (by omega) (by simp; omega) ?_; intro sp5 cap5 w5 hown5 hg5)
   go_roundg (AM n - (j + 1))
   case measure => have := hjg.out; omega
   case rel =>
    have hz63 : AM n ≤ 63 := by unfold AM; omega
    have hN3 : N + 1 ≤ n + 65 := by rw [hN.out]; omega
    refine ⟨j + 1, N + 1, sp5, cap5, by show _ = _; have := hjg.out; omega, by show _ = _; rw [hN.out]; omega, hN3, rfl, ?_, (hbe.alloc hbs _).grown hg5 (by simp; omega) (iN hown.out)⟩
    have := hown5.out
    show World.ownsRow _ _ _ _ _ _ _
    rw [List.replicate_succ', ← List.append_assoc]; exact this
  ·have hje : j = AM n := by have := hjg.out; omega
   have hm1 : ((((N : Nat) : Int) % 64) != 56) = false := by
    have h1 := hN.out
    have h2 : N % 64 = 56 := by unfold AM at hje; omega
    have h3 : ((N : Nat) : Int) % 64 = 56 := by omega
    rw [h3]; rfl
   have hm2 : ((Int.tmod ((N : Nat) : Int) 64) != 56) = false := by rw [Int.tmod_eq_emod_of_nonneg (by omega)]; exact hm1
   have HJE := zh hje; clear hje hj hjg
   obtain ⟨Q, hQ⟩ : ∃ Q, Q = b ++ [128] ++ List.replicate j 0 := ⟨_, rfl⟩
   rw [← hQ] at hown
   have HQL : Hid (Q.length = N) := by show _ = _; rw [hQ, hN.out, List.length_append, List.length_append, nO.out, List.length_replicate]; rfl
   have HPAD : Hid (pad b = Q ++ qO ((n : Int) * 8)) := by
    have hj := HJE.out
    show _ = _; rw [BX, nO.out, hQ, hj]
   have HQM : Hid (N % 64 = 56) := by
    have h1 := hN.out
    have h2 := HJE.out
    show _ = _; unfold AM at h2; omega
   clear hQ HJE hN hm1 hm2
   have hm1 : ((((N : Nat) : Int) % 64) != 56) = false := by
    have h2 := HQM.out
    have h3 : ((N : Nat) : Int) % 64 = 56 := by omega
    rw [h3]; rfl
   have hm2 : ((Int.tmod ((N : Nat) : Int) 64) != 56) = false := by rw [Int.tmod_eq_emod_of_nonneg (by omega)]; exact hm1
   go_wp2_with fail
   clear hm1 hm2
   go_loopg [3, 5] 8 (fun g v i wx => ∃ (M : Nat) (sp : Option Addr) (cap : Nat), g ≤ 8 ∧ i = .int .i64 ((g : Int) - 1) ∧ Hid (M + g = N + 8) ∧ M ≤ N + 8 ∧ v = .slice sp M cap ∧ Hid (wx.ownsRow w0.heap.size 5 1 (.slice sp M cap) M ((Q ++ (qO ((n : Int) * 8)).take (8 - g)).map (Value.int .u8))) ∧ Below w0.heap.size w0 wx)
   case atStart => exact ⟨N, sp4, cap4, by omega, rfl, rfl, by omega, rfl, by show World.ownsRow _ _ _ _ _ _ _; simpa using hown.out, hbe⟩
   case round =>
    clear hown hbe hbs
    obtain ⟨M, sp5, cap5, hg8, rfl, hM, hM2, rfl, hown, hbe⟩ := hrel
    have hbs := hbe.size
    rcases gk with _ | m
    ·rw [show (((0 : Nat) : Int) - 1) = -1 from rfl]
     have hPl : (Q ++ (qO ((n : Int) * 8)).take (8 - 0)) = pad b := by rw [HPAD.out]; rfl
     rw [hPl] at hown
     have HML : Hid ((pad b).length = M) := by have h1 := hM.out; show _ = _; rw [kB, nO.out]; have h2 := HQM.out; have h3 := HQL.out; have h4 := congrArg List.length HPAD.out; rw [kB, nO.out, List.length_append, h3, show (qO ((n : Int) * 8)).length = 8 from rfl] at h4; omega
     have hM64 : M % 64 = 0 := by have h1 := hM.out; have h2 := HQM.out; omega
     have hMpos : 64 ≤ M := by have h1 := hM.out; have h2 := HQM.out; omega
     have HSHA : Hid (sha b = pN (M / 64) iv (pad b)) := by show _ = _; unfold sha; rw [HML.out]
     have hPB : Byt (pad b) := KW HS.out.byt
     have JN : Hid (Src wr wr.heap.size sp5 M cap5 (pad b)) := by
      have ho := hown.out
      rw [← HML.out] at ho
      obtain ⟨sp', cap', e, hsrc, _⟩ := gD ho hPB
      injection e with e1 e2 e3
      subst e1 e3
      rw [HML.out] at hsrc
      exact hsrc
     have HPB := zh hPB
     clear hPl hPB hown HQM HQL HPAD hM
     generalize pad b = P at *
     obtain ⟨g, off, rfl, hgB, hMcap, hcell⟩ := JN.out.cells (by omega)
     have AJ := zh hcell; clear hcell JN
     have HM64 := zh hM64; clear hM64
     have h49 := DW
     go_wp2_with fail
     clear h49
     have hgW := heap_alloc_new wr (.cells #[Value.int .u32 1779033703, .int .u32 3144134277, .int .u32 1013904242, .int .u32 2773480762, .int .u32 1359893119, .int .u32 2600822924, .int .u32 528734635, .int .u32 1541459225] 138)
     have hbW := aB wr (.cells #[Value.int .u32 1779033703, .int .u32 3144134277, .int .u32 1013904242, .int .u32 2773480762, .int .u32 1359893119, .int .u32 2600822924, .int .u32 528734635, .int .u32 1541459225] 138)
     generalize World.alloc wr _ = w6 at *
     have HR6 : Hid (RowIn w6 wr.heap.size 138 .u32 iv.list) := hgW
     have hHlt := HR6.out.lt
     have hbe6 : Below w0.heap.size w0 w6 := hbe.trans (hbW.mono hbs)
     have HC6 : Hid (∀ j, j < M → w6.cell? ⟨g, off + j, none⟩ = some (.int .u8 (P.getD j 0))) := fun j hj => (hbW.cell (p := ⟨g, off + j, none⟩) hgB).trans (AJ.out j hj)
     have HBE6 := zh hbe6
     obtain ⟨H, hH⟩ : ∃ H, wr.heap.size = H := ⟨_, rfl⟩
     rw [hH] at hgB HR6 hHlt hbs
     rw [hH]
     clear hgW hbW hbe6 AJ hbe hH
     go_loopg [7] (M / 64) (fun gg i wx => ∃ k I : Nat, k + gg = M / 64 ∧ Hid (I = 64 * k) ∧ I ≤ M ∧ i = .int .i64 I ∧ Hid (RowIn wx H 138 .u32 (pN k iv P).list) ∧ Hid (Below H w6 wx))
     case atStart => exact ⟨0, 0, by omega, rfl, by omega, rfl, HR6.out, Below.refl _ _⟩
     case round =>
      clear HR6
      obtain ⟨k, I, hkg, hI, hIM, rfl, hrow, HBX⟩ := hrel
      have hbxs := HBX.out.size
      by_cases hk : k < M / 64
      ·have hI64 : I + 64 ≤ M := by have := hI.out; have := HM64.out; omega
       have hlt : I < M := by omega
       go_wp2_with fail
       have HCB : Hid (Calls Tryz.prog 95 #[.agg ((pN k iv P).list.map (Value.int .u32)).toArray, .slice (some ⟨g, off + I, none⟩) 64 (cap5 - I)] wr.drew fun e w' => e = .returned (.agg ((pN (k + 1) iv P).list.map (Value.int .u32)).toArray) ∧ Below wr.heap.size wr w') := by
        have hb := DY g (off + I) (cap5 - I) ((P.drop I).take 64) (pN k iv P) wr.drew (by omega) ?_ (by show g < wr.heap.size; omega) ?_
        ·rw [iS, ← hI.out]
         exact hb.mono fun e w' ⟨he, hb⟩ => ⟨he, (Below.refl _ wr).drew.trans hb⟩
        ·intro j hj
         have h1 := (HBX.out.cell (p := ⟨g, off + (I + j), none⟩) hgB).trans (HC6.out (I + j) (by omega))
         rw [Nat.add_assoc]
         show wr.cell? _ = _
         rw [h1]
         simp [List.getD_eq_getElem?_getD, hj]
        ·intro j
         by_cases hj : j < 64
         ·have := HPB.out.at_ (I + j)
          simpa [List.getD_eq_getElem?_getD, List.getElem?_take, hj] using this
         ·simp [List.getD_eq_getElem?_getD, List.getElem?_take, hj]
       obtain ⟨A2, hA2⟩ : ∃ A2, A2 = ((pN (k + 1) iv P).list.map (Value.int .u32)).toArray := ⟨_, rfl⟩
       rw [← hA2] at HCB
       have HSTO : Hid (∀ w7, Below wr.heap.size wr w7 → (storeCells ⟨H, 0, none⟩ A2.toList).run Tryz.prog w7 = .ok () (w7.setRow H A2)) := fun w7 h7 => NP (hrow.out.below h7 (by omega)) (St.list_length _) _ (St.list_length _) A2 hA2
       have HREL : Hid (∀ w7, Below wr.heap.size wr w7 → RowIn (w7.setRow H A2) H 138 .u32 (pN (k + 1) iv P).list ∧ Below H w6 (w7.setRow H A2)) := fun w7 h7 => ⟨by rw [hA2]; exact setRow_heap _ _ _ _ _ _ (hrow.out.below h7 (by omega)), below_setRow (HBX.out.trans (h7.mono (by omega))) (Nat.le_refl _) _⟩
       have HA2 := zh hA2; clear hA2
       generalize pN k iv P = s at *
       obtain ⟨sa, sb, sc, sd, se, sf, sg, sh⟩ := s
       have k0 := hrow.out.get 0 (by rw [St.list_length]; decide); have k1 := hrow.out.get 1 (by rw [St.list_length]; decide); have k2 := hrow.out.get 2 (by rw [St.list_length]; decide); have k3 := hrow.out.get 3 (by rw [St.list_length]; decide)
       have k4 := hrow.out.get 4 (by rw [St.list_length]; decide); have k5 := hrow.out.get 5 (by rw [St.list_length]; decide); have k6 := hrow.out.get 6 (by rw [St.list_length]; decide); have k7 := hrow.out.get 7 (by rw [St.list_length]; decide)
       simp only [St.list, List.getD_cons_zero, List.getD_cons_succ] at k0 k1 k2 k3 k4 k5 k6 k7
       have HCB' : Hid (Calls Tryz.prog 95 #[.agg #[.int .u32 sa, .int .u32 sb, .int .u32 sc, .int .u32 sd, .int .u32 se, .int .u32 sf, .int .u32 sg, .int .u32 sh], .slice (some ⟨g, off + I, none⟩) 64 (cap5 - I)] wr.drew fun e w' => e = .returned (.agg A2) ∧ Below wr.heap.size wr w') := HCB.out
       clear HCB hrow
       have q1 : IntKind.i64.wrap ((I : Int) + 64) = (I : Int) + 64 := IntWalk.i64_in _ (by omega)
       have q2 : (0 : Int) ≤ (I : Int) + 64 := by omega
       have q3 : ((I : Int) + 64).toNat = I + 64 := by omega
       have q4 : (0 : Int) ≤ (I : Int) := by omega
       have q5 : (I : Int) ≤ (I : Int) + 64 := by omega
       have q6 : (I : Int) + 64 ≤ (cap5 : Int) := by omega
       have q7 : ¬ cap5 = I := by omega
       have q8 : I + 64 - I = 64 := by omega
       have hsz2 : A2.size = 8 := by have := HA2.out; rw [this]; simp [St.list_length]
       go_region_with (go_at_call 95; (with_reducible refine HCB'.out.mono ?_); rintro e w7 ⟨rfl, hb7⟩; have hst := HSTO.out _ hb7)
       go_wp2
       go_roundg (M / 64 - (k + 1))
       case measure => omega
       case rel => exact ⟨k + 1, I + 64, by omega, by show _ = _; have := hI.out; omega, by omega, by go_num, (HREL.out _ hb7).1, (HREL.out _ hb7).2⟩
      ·have hkM : k = M / 64 := by omega
       obtain rfl : I = M := by have := hI.out; have := HM64.out; omega
       have HS2 : Hid (sha b = pN k iv P) := by show _ = _; rw [hkM]; exact HSHA.out
       have HW6 := zh (HBE6.out.trans (HBX.out.mono hbs))
       have HR : Hid (RowIn wr w.heap.size 43 .u8 (List.replicate 32 0)) := HN0.out.z.below HW6.out (by have := HN0.out.s; omega)
       have HWW : Hid (Below w.heap.size w wr) := HN0.out.b.trans (HW6.out.mono HN0.out.b.size)
       have hWH : w.heap.size < H := by have := HN0.out.s; omega
       clear HSHA HBX HBE6 HC6 HPB hkM hkg hI HM64
       generalize pN k iv P = s at *
       go_wp2_with fail
       generalize hwd : World.alloc wr _ = wd
       have hnd : NewZ wr wd := by rw [← hwd]; exact NewZ.new wr
       clear hwd
       have hnds := hnd.s
       have HZD : Hid (RowIn wd wr.heap.size 43 .u8 (List.replicate 32 0)) := hnd.z
       have HRD : Hid (RowIn wd H 138 .u32 s.list) := hrow.out.below hnd.b (by omega)
       have HRS : Hid (RowIn wd w.heap.size 43 .u8 (List.replicate 32 0)) := HR.out.below hnd.b (by omega)
       have HBD : Hid (Below w.heap.size w wd) := HWW.out.trans (hnd.b.mono (by omega))
       obtain ⟨D, hD⟩ : ∃ D, wr.heap.size = D := ⟨_, rfl⟩
       rw [hD] at HZD hnds hbxs
       rw [hD]
       have HSL : Hid ((aT s.list).length = 32) := by show _ = _; rw [aR, St.list_length]
       clear hnd HR HWW hrow HW6 hD
       obtain ⟨sa, sb, sc, sd, se, sf, sg, sh⟩ := s
       go_loopw [9] (fun i wx => ∃ k : Nat, k ≤ 32 ∧ i = .int .i64 k ∧ Hid (RowIn wx D 43 .u8 (aU 32 ((aT (⟨sa, sb, sc, sd, se, sf, sg, sh⟩ : St).list).take k))) ∧ Hid (wd.grownBy wx (some D))) (fun i _ => 32 - (intOf i).toNat)
       case atStart => exact ⟨0, by omega, rfl, HZD.out, World.grownBy.refl _ _⟩
       case round =>
        clear HZD
        obtain ⟨k, hk32, rfl, hrow, hgr⟩ := hrel
        have hHD : H ≠ D := by omega
        have HRX : Hid (RowIn wr H 138 .u32 (⟨sa, sb, sc, sd, se, sf, sg, sh⟩ : St).list) := HRD.out.grown hgr.out hHD
        by_cases hk : k < 32
        ·have HST := zh (LS _ HSL.out k hk)
         have hq8 : k / 4 < 8 := by omega
         have hB := by4 (⟨sa, sb, sc, sd, se, sf, sg, sh⟩ : St).list k (by rw [St.list_length]; omega)
         have kq := HRX.out.get (k / 4) (by rw [St.list_length]; exact hq8)
         obtain ⟨x, hx⟩ : ∃ x, (⟨sa, sb, sc, sd, se, sf, sg, sh⟩ : St).list.getD (k / 4) 0 = x := ⟨_, rfl⟩
         rw [hx] at kq hB
         clear hx
         have HB := zh hB; clear hB
         have d1 : ((k : Int)).tdiv 4 = ((k / 4 : Nat) : Int) := by rw [Int.tdiv_eq_ediv_of_nonneg (by omega)]; omega
         have d2 : (k : Int) / 4 = ((k / 4 : Nat) : Int) := by omega
         obtain ⟨q, hq⟩ : ∃ q, k / 4 = q := ⟨_, rfl⟩
         rw [hq] at kq d1 d2 hq8
         have q1 : (0 : Int) ≤ (q : Int) := by omega
         have q2 : (q : Int) < 8 := by omega
         have q3 : (0 : Int) ≤ (k : Int) := by omega
         have q4 : (k : Int) < 32 := by omega
         have hc1 : decide ((k : Int) < 32) = true := by simp; omega
         have r0 : k % 4 = 0 ∨ k % 4 = 1 ∨ k % 4 = 2 ∨ k % 4 = 3 := by omega
         clear hq
         have hfl : (aU 32 ((aT (⟨sa, sb, sc, sd, se, sf, sg, sh⟩ : St).list).take k)).length = 32 := cU _ _ (by rw [List.length_take]; omega)
         have c0 := hrow.out.get k (by rw [hfl]; exact hk)
         have f0 := hrow.out.free k
         clear hfl
         obtain ⟨y, hy⟩ : ∃ y, (aU 32 ((aT (⟨sa, sb, sc, sd, se, sf, sg, sh⟩ : St).list).take k)).getD k 0 = y := ⟨_, rfl⟩
         rw [hy] at c0
         clear hy
         rcases r0 with r | r | r | r
         ·have m1 : (k : Int).tmod 4 = 0 := by rw [Int.tmod_eq_emod_of_nonneg (by omega)]; omega
          have m2 : (k : Int) % 4 = 0 := by omega
          go_wp2_with fail
          go_roundw
          case rel =>
           have h1 := hrow.out.put k ((aT (⟨sa, sb, sc, sd, se, sf, sg, sh⟩ : St).list).getD k 0)
           rw [HST.out, HB.out, r] at h1
           refine ⟨k + 1, by omega, by go_num, ?_, cE hgr.out _ _⟩
           first | exact h1 | (have h2 : (wb x).getD 0 0 = x / 16777216 % 256 := (by simp [wb]); rw [h2] at h1; simpa using h1)
          case measure => simp [intOf]; omega
         ·have m1 : (k : Int).tmod 4 = 1 := by rw [Int.tmod_eq_emod_of_nonneg (by omega)]; omega
          have m2 : (k : Int) % 4 = 1 := by omega
          go_wp2_with fail
          go_roundw
          case rel =>
           have h1 := hrow.out.put k ((aT (⟨sa, sb, sc, sd, se, sf, sg, sh⟩ : St).list).getD k 0)
           rw [HST.out, HB.out, r] at h1
           refine ⟨k + 1, by omega, by go_num, ?_, cE hgr.out _ _⟩
           first | exact h1 | (have h2 : (wb x).getD 1 0 = x / 65536 % 256 := (by simp [wb]); rw [h2] at h1; simpa using h1)
          case measure => simp [intOf]; omega
         ·have m1 : (k : Int).tmod 4 = 2 := by rw [Int.tmod_eq_emod_of_nonneg (by omega)]; omega
          have m2 : (k : Int) % 4 = 2 := by omega
          go_wp2_with fail
          go_roundw
          case rel =>
           have h1 := hrow.out.put k ((aT (⟨sa, sb, sc, sd, se, sf, sg, sh⟩ : St).list).getD k 0)
           rw [HST.out, HB.out, r] at h1
           refine ⟨k + 1, by omega, by go_num, ?_, cE hgr.out _ _⟩
           first | exact h1 | (have h2 : (wb x).getD 2 0 = x / 256 % 256 := (by simp [wb]); rw [h2] at h1; simpa using h1)
          case measure => simp [intOf]; omega
         ·have m1 : (k : Int).tmod 4 = 3 := by rw [Int.tmod_eq_emod_of_nonneg (by omega)]; omega
          have m2 : (k : Int) % 4 = 3 := by omega
          go_wp2_with fail
          go_roundw
          case rel =>
           have h1 := hrow.out.put k ((aT (⟨sa, sb, sc, sd, se, sf, sg, sh⟩ : St).list).getD k 0)
           rw [HST.out, HB.out, r] at h1
           refine ⟨k + 1, by omega, by go_num, ?_, cE hgr.out _ _⟩
           first | exact h1 | (have h2 : (wb x).getD 3 0 = x / 1 % 256 := (by simp [wb]); rw [h2] at h1; simpa using h1)
          case measure => simp [intOf]; omega
        ·obtain rfl : k = 32 := by omega
         have HRSX : Hid (RowIn wr w.heap.size 43 .u8 (List.replicate 32 0)) := HRS.out.grown hgr.out (by omega)
         have HBX : Hid (Below w.heap.size w wr) := HBD.out.trans ((bB hgr.out (by omega)).mono (by omega))
         have HX : Hid (RowIn wr D 43 .u8 (aT (⟨sa, sb, sc, sd, se, sf, sg, sh⟩ : St).list)) := by
          have h1 := hrow.out
          rw [List.take_of_length_le (by rw [HSL.out]; exact Nat.le_refl _), gI _ _ HSL.out] at h1
          exact h1
         have HDG : Hid ((dg b) = ((aT (⟨sa, sb, sc, sd, se, sf, sg, sh⟩ : St).list).map (Value.int .u8)).toArray) := by show _ = _; rw [dg, HS2.out]
         rw [show ((32 : Nat) : Int) = 32 from rfl]
         have hc1 : decide ((32 : Int) < 32) = false := by decide
         generalize (⟨sa, sb, sc, sd, se, sf, sg, sh⟩ : St) = s at *
         have HSZ : Hid ((List.replicate 32 (0:Int)).length = (aT s.list).length) := by show _ = _; rw [HSL.out]; rfl
         clear hrow hgr HRS HBD HRX HRD HS2 HSL
         generalize aT s.list = L at *
         have HI : Hid ((Tryz.prog.info? 43).map (·.size) = some (L.map (Value.int .u8)).toArray.size) := by show _ = _; rw [List.size_toArray, List.length_map, ← HSZ.out]; exact Tryz.info25d
         have HO := zh (bE .u8 L)
         have HZ : Hid (((List.replicate 32 (0:Int)).map (Value.int .u8)).toArray.size = (L.map (Value.int .u8)).toArray.size) := by show _ = _; rw [List.size_toArray, List.length_map, List.size_toArray, List.length_map, HSZ.out]
         go_wp2_with (first
          | (refine wpList_load_row rfl 43 _ rfl D rfl 43 _ (0, 0) _ HX.out Tryz.underlying43 rfl HI.out ?_)
          | (refine wpList_store_row rfl 43 _ _ rfl w.heap.size _ rfl rfl 43 _ HRSX.out HI.out HZ.out HO.out ?_))
         exact bodyPost_ret (results_cell_row (P := Tryz.prog) rfl _ _ w.heap.size 43 _ (0, 0) _ rfl (HRSX.out.setRow _) Tryz.underlying43 rfl HI.out) rfl ⟨by rw [HDG.out], below_setRow HBX.out (Nat.le_refl _) _⟩
    ·rw [show (((m + 1 : Nat) : Int) - 1) = (m : Int) by omega]
     have hm8 : m < 8 := by omega
     have HST := zh (CI ((n : Int) * 8) m hm8)
     have HML : Hid (M = (Q ++ (qO ((n : Int) * 8)).take (8 - (m + 1))).length) := by
      have h1 := hM.out
      show _ = _; rw [List.length_append, HQL.out, List.length_take, show (qO ((n : Int) * 8)).length = 8 from rfl]; omega
     go_wp2_with (at_builtin; refine eS rfl (.tmp 30) (.tmp 37) 22 5 rfl Tryz.underlying22 Tryz.info5a w0.heap.size _ (Q ++ (qO ((n : Int) * 8)).take (8 - (m + 1))) M rfl HML.out (hown.out.alloc _) wr.heap.size (lb ((n : Int) * 8) m) rfl (by simp [lb]) (by omega) (by simp; omega) ?_; intro sp6 cap6 w6 hown6 hg6)
     go_roundg m
     case measure => omega
     case rel =>
      refine ⟨M + 1, sp6, cap6, by omega, rfl, by show _ = _; have := hM.out; omega, by have := hM.out; omega, rfl, ?_, (hbe.alloc hbs _).grown hg6 (by simp; omega) (iN hown.out)⟩
      have := hown6.out
      rw [List.append_assoc, HST.out] at this
      exact this
end Go.Proofs.YtcligodahogpkaaGreatDoor
