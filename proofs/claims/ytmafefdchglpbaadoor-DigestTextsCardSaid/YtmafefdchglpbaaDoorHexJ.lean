/-
  The walks of the reference's ParseHalf and Parse (condition: the string's length is an int).
-/
import Derived.Test.YtmafefdchglpbaaDoorHexI
namespace Go.Proofs.YtmafefdchglpbaaDoor
open Go.RowKit

theorem pby_length (l : List UInt8) (n : Nat) : (pby l n).length = n := by unfold pby; split <;> simp [hbs_length]
theorem ppby_length (l : List UInt8) : (ppby l).length = 32 := by unfold ppby; split <;> simp [hbs_length]
/-- the row on the way: the first k bytes of a list, the others zero -/
def wayZ (L : List Int) (n k : Nat) : List Int := L.take k ++ List.replicate (n - k) 0
theorem wayZ_zero (L : List Int) (n : Nat) : wayZ L n 0 = List.replicate n 0 := by simp [wayZ]
theorem wayZ_length {L : List Int} {n k : Nat} (hk : k ≤ n) (hl : k ≤ L.length) : (wayZ L n k).length = n := by
  unfold wayZ; rw [List.length_append, List.length_take, List.length_replicate]; omega
theorem wayZ_set {L : List Int} {n k : Nat} (hk : k < n) (hl : k < L.length) : (wayZ L n k).set k (L.getD k 0) = wayZ L n (k + 1) := by
  unfold wayZ
  rw [List.set_append_right _ _ (by rw [List.length_take]; omega), List.length_take, show min k L.length = k by omega, Nat.sub_self, show n - k = (n - (k + 1)) + 1 by omega, List.replicate_succ, List.take_succ_eq_append_getElem hl, List.append_assoc, List.getD_eq_getElem?_getD, List.getElem?_eq_getElem hl]
  rfl
theorem wayZ_full {L : List Int} {n : Nat} (hl : L.length = n) : wayZ L n n = L := by
  unfold wayZ; rw [Nat.sub_self, List.take_of_length_le (by omega)]; simp
theorem grown_setJ {a w : World} {g : Nat} (h : a.grownBy w (some g)) (i : Nat) (u : Value) : a.grownBy (w.setCell ⟨g, i, none⟩ u) (some g) :=
  ⟨h.os, h.tape, h.output, by simpa [World.setCell] using h.size, fun k hk hne => (Below.heap_setCell w ⟨g, i, none⟩ u k (by intro e; exact hne (by rw [e]))).trans (h.block k hk hne)⟩
set_option maxRecDepth 100000 in
set_option maxHeartbeats 1000000 in
theorem refParseHalf_any (s : ByteArray) (w : World) :
    Calls Tryd.prog 12 #[.string s] w fun e w' => e = .returned (.tuple #[.agg ((pby s.data.toList 16).map (Value.int .u8)).toArray, .bool (pok s.data.toList 16)]) ∧ Below w.heap.size w w' := by
  have HR := Lib.hid (row_new w 25 .u8 (List.replicate 16 0))
  have HB := Lib.hid (below_alloc w (.cells ((List.replicate 16 0).map (Value.int .u8)).toArray 25))
  have HSZ := Lib.hid (alloc_size w (.cells ((List.replicate 16 0).map (Value.int .u8)).toArray 25))
  have hbz := bzH
  go_enter Tryd.func12, Tryd.ntmps12
  go_wp2_with fail
  generalize hw0 : World.alloc w _ = w0
  have hr0 : RowIn w0 w.heap.size 25 .u8 (List.replicate 16 0) := by rw [← hw0]; exact HR.out
  have hb0 : Below w.heap.size w w0 := by rw [← hw0]; exact HB.out
  have hs0 : w0.heap.size = w.heap.size + 1 := by rw [← hw0]; exact HSZ.out
  clear hw0 HR HB HSZ
  have hr1 : RowIn (w0.alloc (.cells (Array.replicate 16 (Value.int .u8 0)) 25)) w0.heap.size 25 .u8 (List.replicate 16 0) := row_new w0 25 .u8 (List.replicate 16 0)
  have hb1 := below_alloc w0 (.cells (Array.replicate 16 (Value.int .u8 0)) 25)
  have hz1 : (w0.alloc (.cells (Array.replicate 16 (Value.int .u8 0)) 25)).heap.size = w0.heap.size + 1 := by simp
  generalize hw1 : World.alloc w0 _ = w1
  have hr1' : RowIn w1 (w.heap.size + 1) 25 .u8 (List.replicate 16 0) := by rw [← hw1, ← hs0]; exact hr1
  have hb1' : Below w0.heap.size w0 w1 := by rw [← hw1]; exact hb1
  have hz1' : w1.heap.size = w.heap.size + 1 + 1 := by rw [← hw1, ← hs0]; exact hz1
  clear hw1 hr1 hb1 hz1
  have hr01 := hr0.below hb1' (by omega)
  have hbe1 := hb0.trans (hb1'.mono (by omega))
  refine (refUnhex_any s 16 w1 (by omega)).mono ?_
  rintro e w2 ⟨sp, cap, rfl, hsrc, hb2, hab⟩
  have HR2 := Lib.hid (hr1'.below hb2 (by omega))
  have HR0 := Lib.hid (hr01.below hb2 (by omega))
  have HBE : Hid (Below w.heap.size w w2) := hbe1.trans (hb2.mono (by omega))
  have hz2 : w.heap.size + 1 + 1 ≤ w2.heap.size := by have := hb2.size; omega
  have hpl : pby s.data.toList 16 = wayZ (if pok s.data.toList 16 = true then hbs s.data.toList 16 else []) 16 (if pok s.data.toList 16 = true then 16 else 0) := by
    unfold pby
    split
    · rw [wayZ_full (hbs_length _ _)]
    · rfl
  have hN : (if pok s.data.toList 16 = true then 16 else 0) ≤ 16 := by split <;> omega
  obtain ⟨N, hNe⟩ : ∃ N, (if pok s.data.toList 16 = true then 16 else 0) = N := ⟨_, rfl⟩
  obtain ⟨L, hLe⟩ : ∃ L, (if pok s.data.toList 16 = true then hbs s.data.toList 16 else []) = L := ⟨_, rfl⟩
  rw [hNe] at hpl hN hsrc ⊢
  rw [hLe] at hpl hsrc
  obtain ⟨ok, hok⟩ : ∃ b, pok s.data.toList 16 = b := ⟨_, rfl⟩
  rw [hok]
  have HPL := Lib.hid hpl; have HOK := Lib.hid hok; have HSRC := Lib.hid hsrc; have HLL := Lib.hid hsrc.len
  have HAB : Hid (∀ a, sp = some a → w.heap.size + 1 + 1 ≤ a.block) := fun a ha => by have := hab a ha; omega
  have HR20 : Hid (RowIn w2 (w.heap.size + 1) 25 .u8 (wayZ L 16 0)) := by show RowIn _ _ _ _ _; rw [wayZ_zero]; exact HR2.out
  clear hNe hLe hok hpl hsrc hab hb2 hr01 hbe1 hr0 hb0 hs0 hr1' hb1' hz1' HR2
  go_wp2_with fail
  go_loopw [7] (fun i wr => ∃ k : Nat, k ≤ N ∧ i = .int .i64 k ∧ Hid (RowIn wr (w.heap.size + 1) 25 .u8 (wayZ L 16 k)) ∧ Hid (w2.grownBy wr (some (w.heap.size + 1)))) (fun i _ => N - (intOf i).toNat)
  case atStart => exact ⟨0, Nat.zero_le _, rfl, HR20.out, World.grownBy.refl _ _⟩
  case round =>
    clear HR20
    obtain ⟨k, hk, rfl, hrow, hgr⟩ := hrel
    have hgz := hgr.out.size
    by_cases hlt : k < N
    · have hd : decide ((k : Int) < (N : Int)) = true := by simp; omega
      obtain ⟨bb, off, rfl, hbb, hcap, hc⟩ := HSRC.out.cells (by omega)
      have hne := HAB.out _ rfl
      have c1 := (World.cell?_of_block (a := ⟨bb, off + k, none⟩) (hgr.out.block bb hbb (by intro e; have e' := Option.some.inj e; have hne' : w.heap.size + 1 + 1 ≤ bb := hne; omega))).trans (hc k hlt)
      have hwl : (wayZ L 16 k).length = 16 := wayZ_length (by omega) (by rw [HLL.out]; omega)
      have c2 := hrow.out.get k (by rw [hwl]; omega)
      have f2 := hrow.out.free k
      obtain ⟨y, hy⟩ : ∃ y, (wayZ L 16 k).getD k 0 = y := ⟨_, rfl⟩
      rw [hy] at c2
      have hst := wayZ_set (L := L) (n := 16) (k := k) (by omega) (by rw [HLL.out]; exact hlt)
      have p1 : (0 : Int) ≤ (k : Int) := by omega
      have p2 : (k : Int) < (N : Int) := by omega
      have p3 : (k : Int) < 16 := by omega
      obtain ⟨x, hx⟩ : ∃ x, L.getD k 0 = x := ⟨_, rfl⟩
      rw [hx] at c1 hst
      have HE : Hid (RowIn (wr.setCell ⟨w.heap.size + 1, k, none⟩ (.int .u8 x)) (w.heap.size + 1) 25 .u8 (wayZ L 16 (k + 1)) ∧ w2.grownBy (wr.setCell ⟨w.heap.size + 1, k, none⟩ (.int .u8 x)) (some (w.heap.size + 1))) := by
        have h1 := hrow.out.put k x
        rw [hst] at h1
        exact ⟨h1, grown_setJ hgr.out _ _⟩
      clear hne hc hwl hy hst hx hrow hgr hbz
      go_wp2_with fail
      go_roundw
      case rel => exact ⟨k + 1, by omega, by go_num, HE.out.1, HE.out.2⟩
      case measure => simp [intOf]; omega
    · obtain rfl : N = k := by omega
      have hd : decide ((N : Int) < (N : Int)) = false := by simp
      have hwl : (wayZ L 16 N).length = 16 := wayZ_length (by omega) (by rw [HLL.out]; exact Nat.le_refl _)
      have hpl := HPL.out
      have HR9 := Lib.hid (HR0.out.grown hgr.out (by omega))
      have HB9 : Hid (Below w.heap.size w wr) := HBE.out.trans ((below_of_grown hgr.out (by omega)).mono (by omega))
      obtain ⟨M, hM⟩ : ∃ M, wayZ L 16 N = M := ⟨_, rfl⟩
      rw [hM] at hrow hwl hpl
      have HPL2 := Lib.hid hpl
      have HI := Lib.hid (row_info16 M hwl); have HO := Lib.hid (oneCell_map .u8 M); have HS := Lib.hid (row_sizes (List.replicate 16 0) M (by rw [hwl]; simp))
      clear hM hwl hpl HPL hgr hbz
      go_wp2_with (first
        | (refine wpList_load_row rfl 25 _ rfl (w.heap.size + 1) rfl 25 _ (0, 0) _ hrow.out Tryd.underlying25 rfl HI.out ?_)
        | (refine wpList_store_row rfl 25 _ _ rfl w.heap.size _ rfl rfl 25 _ HR9.out HI.out HS.out HO.out ?_))
      exact bodyPost_ret (results_row_tmp (P := Tryd.prog) rfl _ _ w.heap.size 25 _ (0, 0) _ rfl (HR9.out.setRow _) Tryd.underlying25 rfl HI.out) rfl ⟨by rw [HPL2.out, HOK.out]; rfl, below_setRow HB9.out (Nat.le_refl _) _⟩
/-- two new digests of zeros -/
def twoW (w : World) : World := (w.alloc (.cells (Array.replicate 32 (Value.int .u8 0)) 23)).alloc (.cells (Array.replicate 32 (Value.int .u8 0)) 23)
theorem twoZ (w : World) : RowIn (twoW w) (w.heap.size + 1) 23 .u8 (List.replicate 32 0) ∧ RowIn (twoW w) w.heap.size 23 .u8 (List.replicate 32 0) ∧ Below w.heap.size w (twoW w) ∧ (twoW w).heap.size = w.heap.size + 1 + 1 := by
  have h0 : RowIn (w.alloc (.cells (Array.replicate 32 (Value.int .u8 0)) 23)) w.heap.size 23 .u8 (List.replicate 32 0) := row_new w 23 .u8 (List.replicate 32 0)
  have b0 := below_alloc w (.cells (Array.replicate 32 (Value.int .u8 0)) 23)
  have z0 := alloc_size w (.cells (Array.replicate 32 (Value.int .u8 0)) 23)
  unfold twoW
  generalize World.alloc w _ = w0 at *
  have h1 : RowIn (w0.alloc (.cells (Array.replicate 32 (Value.int .u8 0)) 23)) w0.heap.size 23 .u8 (List.replicate 32 0) := row_new w0 23 .u8 (List.replicate 32 0)
  have b1 := below_alloc w0 (.cells (Array.replicate 32 (Value.int .u8 0)) 23)
  have z1 := alloc_size w0 (.cells (Array.replicate 32 (Value.int .u8 0)) 23)
  generalize World.alloc w0 _ = w1 at *
  rw [z0] at h1 z1
  exact ⟨h1, h0.below b1 (by omega), b0.trans (b1.mono (by omega)), z1⟩
set_option maxRecDepth 100000 in
set_option maxHeartbeats 1000000 in
theorem refParse_any (s : ByteArray) (w : World) :
    Calls Tryd.prog 10 #[.string s] w fun e w' => e = .returned (.tuple #[.agg ((ppby s.data.toList).map (Value.int .u8)).toArray, .bool (ppok s.data.toList)]) ∧ Below w.heap.size w w' := by
  have hbz := bzD
  have h7e : s.data.toList.take 7 = (s.extract 0 7).toList := by rw [Lib.toList_data, ext_data]; rfl
  have hpk : ppok s.data.toList = (decide ((s.extract 0 7).toList = [115, 104, 97, 50, 53, 54, 58]) && pok (s.extract 7 s.size).data.toList 32) := by
    unfold ppok; rw [h7e, ext_data, List.take_of_length_le (by rw [← Lib.size_eq]; exact Nat.le_refl _)]; rfl
  have hex : (s.extract 7 s.size).data.toList = s.data.toList.drop 7 := by rw [ext_data, List.take_of_length_le (by rw [← Lib.size_eq]; exact Nat.le_refl _)]
  have hz0 : ppok s.data.toList = false → ppby s.data.toList = List.replicate 32 0 := fun h => by unfold ppby; rw [if_neg (by rw [h]; simp)]
  obtain ⟨t1, t2, t3, t4⟩ := twoZ w
  by_cases h71 : s.size = 71
  · have e2 : (s.size : Int) = 71 := by omega
    by_cases ht : (s.extract 0 7).toList = [115, 104, 97, 50, 53, 54, 58]
    · have ht1 : ((s.extract 0 7).toList == [115, 104, 97, 50, 53, 54, 58]) = true := by rw [beq_iff_eq]; exact ht
      have ht2 : (!((s.extract 0 7).toList == [115, 104, 97, 50, 53, 54, 58])) = false := by rw [ht1]; rfl
      rw [decide_eq_true ht, Bool.true_and, h71] at hpk
      rw [h71] at hex
      have hpb : ppby s.data.toList = pby (s.extract 7 71).data.toList 32 := by unfold ppby pby; rw [hpk, hex]
      have HPK := Lib.hid hpk; have HPB := Lib.hid hpb
      obtain ⟨S, hS⟩ : ∃ S, s.extract 7 71 = S := ⟨_, rfl⟩
      rw [hS] at HPK HPB
      clear ht hz0 hpk hpb h7e hex
      go_enter Tryd.func10, Tryd.ntmps10
      go_wp2_with fail
      generalize hw1 : World.alloc (World.alloc w _) _ = w1
      have hw2 : twoW w = w1 := hw1
      rw [hw2] at t1 t2 t3 t4
      clear hw1 hw2 hS
      refine (refUnhex_any S 32 w1 (by omega)).mono ?_
      rintro e w2 ⟨sp, cap, rfl, hsrc, hb2, hab⟩
      have HR2 := Lib.hid (t1.below hb2 (by omega))
      have HR0 := Lib.hid (t2.below hb2 (by omega))
      have HBE : Hid (Below w.heap.size w w2) := t3.trans (hb2.mono (by omega))
      have hz2 : w.heap.size + 1 + 1 ≤ w2.heap.size := by have := hb2.size; omega
      have hpl : pby S.data.toList 32 = wayZ (if pok S.data.toList 32 = true then hbs S.data.toList 32 else []) 32 (if pok S.data.toList 32 = true then 32 else 0) := by
        unfold pby
        split
        · rw [wayZ_full (hbs_length _ _)]
        · rfl
      have hN : (if pok S.data.toList 32 = true then 32 else 0) ≤ 32 := by split <;> omega
      obtain ⟨N, hNe⟩ : ∃ N, (if pok S.data.toList 32 = true then 32 else 0) = N := ⟨_, rfl⟩
      obtain ⟨L, hLe⟩ : ∃ L, (if pok S.data.toList 32 = true then hbs S.data.toList 32 else []) = L := ⟨_, rfl⟩
      rw [hNe] at hpl hN hsrc ⊢
      rw [hLe] at hpl hsrc
      obtain ⟨ok, hok⟩ : ∃ b, pok S.data.toList 32 = b := ⟨_, rfl⟩
      rw [hok]
      have HPL := Lib.hid hpl; have HOK := Lib.hid hok; have HSRC := Lib.hid hsrc; have HLL := Lib.hid hsrc.len
      have HAB : Hid (∀ a, sp = some a → w.heap.size + 1 + 1 ≤ a.block) := fun a ha => by have := hab a ha; omega
      have HR20 : Hid (RowIn w2 (w.heap.size + 1) 23 .u8 (wayZ L 32 0)) := by show RowIn _ _ _ _ _; rw [wayZ_zero]; exact HR2.out
      clear hNe hLe hok hpl hsrc hab hb2 t1 t2 t3 t4 HR2
      go_wp2_with fail
      go_loopw [7] (fun i wr => ∃ k : Nat, k ≤ N ∧ i = .int .i64 k ∧ Hid (RowIn wr (w.heap.size + 1) 23 .u8 (wayZ L 32 k)) ∧ Hid (w2.grownBy wr (some (w.heap.size + 1)))) (fun i _ => N - (intOf i).toNat)
      case atStart => exact ⟨0, Nat.zero_le _, rfl, HR20.out, World.grownBy.refl _ _⟩
      case round =>
        clear HR20
        obtain ⟨k, hk, rfl, hrow, hgr⟩ := hrel
        have hgz := hgr.out.size
        by_cases hlt : k < N
        · have hd : decide ((k : Int) < (N : Int)) = true := by simp; omega
          obtain ⟨bb, off, rfl, hbb, hcap, hc⟩ := HSRC.out.cells (by omega)
          have hne := HAB.out _ rfl
          have c1 := (World.cell?_of_block (a := ⟨bb, off + k, none⟩) (hgr.out.block bb hbb (by intro e; have e' := Option.some.inj e; have hne' : w.heap.size + 1 + 1 ≤ bb := hne; omega))).trans (hc k hlt)
          have hwl : (wayZ L 32 k).length = 32 := wayZ_length (by omega) (by rw [HLL.out]; omega)
          have c2 := hrow.out.get k (by rw [hwl]; omega)
          have f2 := hrow.out.free k
          obtain ⟨y, hy⟩ : ∃ y, (wayZ L 32 k).getD k 0 = y := ⟨_, rfl⟩
          rw [hy] at c2
          have hst := wayZ_set (L := L) (n := 32) (k := k) (by omega) (by rw [HLL.out]; exact hlt)
          have p1 : (0 : Int) ≤ (k : Int) := by omega
          have p2 : (k : Int) < (N : Int) := by omega
          have p3 : (k : Int) < 32 := by omega
          obtain ⟨x, hx⟩ : ∃ x, L.getD k 0 = x := ⟨_, rfl⟩
          rw [hx] at c1 hst
          have HE : Hid (RowIn (wr.setCell ⟨w.heap.size + 1, k, none⟩ (.int .u8 x)) (w.heap.size + 1) 23 .u8 (wayZ L 32 (k + 1)) ∧ w2.grownBy (wr.setCell ⟨w.heap.size + 1, k, none⟩ (.int .u8 x)) (some (w.heap.size + 1))) := by
            have h1 := hrow.out.put k x
            rw [hst] at h1
            exact ⟨h1, grown_setJ hgr.out _ _⟩
          clear hne hc hwl hy hst hx hrow hgr hbz
          go_wp2_with fail
          go_roundw
          case rel => exact ⟨k + 1, by omega, by go_num, HE.out.1, HE.out.2⟩
          case measure => simp [intOf]; omega
        · obtain rfl : N = k := by omega
          have hd : decide ((N : Int) < (N : Int)) = false := by simp
          have hwl : (wayZ L 32 N).length = 32 := wayZ_length (by omega) (by rw [HLL.out]; exact Nat.le_refl _)
          have hpl := HPL.out
          have HR9 := Lib.hid (HR0.out.grown hgr.out (by omega))
          have HB9 : Hid (Below w.heap.size w wr) := HBE.out.trans ((below_of_grown hgr.out (by omega)).mono (by omega))
          obtain ⟨M, hM⟩ : ∃ M, wayZ L 32 N = M := ⟨_, rfl⟩
          rw [hM] at hrow hwl hpl
          have HPL2 := Lib.hid hpl
          have HI := Lib.hid (row_info32 M hwl); have HO := Lib.hid (oneCell_map .u8 M); have HS := Lib.hid (row_sizes (List.replicate 32 0) M (by rw [hwl]; simp))
          clear hM hwl hpl HPL hgr hbz
          go_wp2_with (first
            | (refine wpList_load_row rfl 23 _ rfl (w.heap.size + 1) rfl 23 _ (0, 0) _ hrow.out Tryd.underlying23 rfl HI.out ?_)
            | (refine wpList_store_row rfl 23 _ _ rfl w.heap.size _ rfl rfl 23 _ HR9.out HI.out HS.out HO.out ?_))
          exact bodyPost_ret (results_row_tmp (P := Tryd.prog) rfl _ _ w.heap.size 23 _ (0, 0) _ rfl (HR9.out.setRow _) Tryd.underlying23 rfl HI.out) rfl ⟨by rw [HPB.out, HPL2.out, HPK.out, HOK.out]; rfl, below_setRow HB9.out (Nat.le_refl _) _⟩
    · have ht1 : ((s.extract 0 7).toList == [115, 104, 97, 50, 53, 54, 58]) = false := by rw [beq_eq_false_iff_ne]; exact ht
      have ht2 : (!((s.extract 0 7).toList == [115, 104, 97, 50, 53, 54, 58])) = true := by rw [ht1]; rfl
      rw [decide_eq_false ht, Bool.false_and] at hpk
      have HP := Lib.hid hpk
      have HPB := Lib.hid (hz0 hpk)
      have HR1 := Lib.hid t1; have HR0 := Lib.hid t2; have HBE1 := Lib.hid t3
      have HI0 : Hid ((Tryd.prog.info? 23).map (·.size) = some (zrow 32).size) := row_info32 (List.replicate 32 0) (by simp)
      have HO0 : Hid ((zrow 32).all (·.oneCell') = true) := oneCell_map .u8 _
      have HS0 : Hid (((List.replicate 32 (0 : Int)).map (Value.int .u8)).toArray.size = (zrow 32).size) := rfl
      clear ht hpk h7e hex t1 t2 t3 t4 hz0
      go_enter Tryd.func10, Tryd.ntmps10
      go_wp2_with (first
        | (refine wpList_load_row rfl 23 _ rfl (w.heap.size + 1) rfl 23 _ (0, 0) _ HR1.out Tryd.underlying23 rfl HI0.out ?_)
        | (refine wpList_store_row rfl 23 _ _ rfl w.heap.size (zrow 32) rfl rfl 23 _ HR0.out HI0.out HS0.out HO0.out ?_))
      exact bodyPost_ret (results_row_tmp (P := Tryd.prog) rfl _ _ w.heap.size 23 (zrow 32) (0, 0) _ rfl (setRow_heap _ _ _ _ _ _ HR0.out) Tryd.underlying23 rfl HI0.out) rfl ⟨by rw [HPB.out, HP.out]; rfl, below_setRow HBE1.out (Nat.le_refl _) _⟩
  · have e1 : ((s.size : Int) != 71) = true := by rw [bne_iff_ne]; omega
    have e2 : ¬ (s.size : Int) = 71 := by omega
    have hpk2 : ppok s.data.toList = false := by
      cases h : ppok s.data.toList
      · rfl
      · exfalso; apply h71
        rw [hpk, Bool.and_eq_true, decide_eq_true_eq] at h
        have h2 := h.2
        have h3 := congrArg List.length h.1
        rw [← h7e, List.length_take] at h3
        unfold pok at h2
        rw [hex] at h2
        simp only [Bool.and_eq_true, decide_eq_true_eq, List.length_drop] at h2
        have h4 : min 7 s.data.toList.length = 7 := h3
        rw [Lib.size_eq]; omega
    have HP := Lib.hid hpk2
    have HPB := Lib.hid (hz0 hpk2)
    have HR1 := Lib.hid t1; have HR0 := Lib.hid t2; have HBE1 := Lib.hid t3
    have HI0 : Hid ((Tryd.prog.info? 23).map (·.size) = some (zrow 32).size) := row_info32 (List.replicate 32 0) (by simp)
    have HO0 : Hid ((zrow 32).all (·.oneCell') = true) := oneCell_map .u8 _
    have HS0 : Hid (((List.replicate 32 (0 : Int)).map (Value.int .u8)).toArray.size = (zrow 32).size) := rfl
    clear hpk hpk2 h7e hex t1 t2 t3 t4 hz0 h71
    go_enter Tryd.func10, Tryd.ntmps10
    go_wp2_with (first
      | (refine wpList_load_row rfl 23 _ rfl (w.heap.size + 1) rfl 23 _ (0, 0) _ HR1.out Tryd.underlying23 rfl HI0.out ?_)
      | (refine wpList_store_row rfl 23 _ _ rfl w.heap.size (zrow 32) rfl rfl 23 _ HR0.out HI0.out HS0.out HO0.out ?_))
    exact bodyPost_ret (results_row_tmp (P := Tryd.prog) rfl _ _ w.heap.size 23 (zrow 32) (0, 0) _ rfl (setRow_heap _ _ _ _ _ _ HR0.out) Tryd.underlying23 rfl HI0.out) rfl ⟨by rw [HPB.out, HP.out]; rfl, below_setRow HBE1.out (Nat.le_refl _) _⟩
end Go.Proofs.YtmafefdchglpbaaDoor
