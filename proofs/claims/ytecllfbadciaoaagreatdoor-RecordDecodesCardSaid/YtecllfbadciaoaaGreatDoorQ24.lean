/-
  The walks of the reference's ParseHalf and Parse (condition: the string's length is an int).
-/
import Derived.Test.YtecllfbadciaoaaGreatDoorZip
import Derived.Test.YtecllfbadciaoaaGreatDoorQ23
set_option maxRecDepth 100000
set_option maxHeartbeats 8000000
namespace Go.Proofs.YtecllfbadciaoaaGreatDoor
open Go.RowKit
def wayZ (L : List Int) (n k : Nat) : List Int := L.take k ++ List.replicate (n - k) 0
theorem wayZ_zero (L : List Int) (n : Nat) : wayZ L n 0 = List.replicate n 0 := by simp [wayZ]
theorem wayZ_length {L : List Int} {n k : Nat} (hk : k ≤ n) (hl : k ≤ L.length) : (wayZ L n k).length = n := by
 unfold wayZ; rw [List.length_append, List.length_take, List.length_replicate]; omega
theorem wayZ_set {L : List Int} {n k : Nat} (hk : k < n) (hl : k < L.length) : (wayZ L n k).set k (L.getD k 0) = wayZ L n (k + 1) := by
 unfold wayZ
 rw [List.set_append_right _ _ (by rw [List.length_take]; omega), List.length_take, show min k L.length = k by omega, Nat.sub_self, show n - k = (n - (k + 1)) + 1 by omega, List.replicate_succ, List.take_succ_eq_append_getElem hl, List.append_assoc, List.getD_eq_getElem?_getD, List.getElem?_eq_getElem hl]
 rfl
theorem wayZ_full {L : List Int} {n : Nat} (hl : L.length = n) : wayZ L n n = L := by
 unfold wayZ; rw [Nat.sub_self, List.take_of_length_le (by omega)]; simp
theorem grown_setJ {a w : World} {g : Nat} (h : a.grownBy w (some g)) (i : Nat) (u : Value) : a.grownBy (w.setCell ⟨g, i, none⟩ u) (some g) :=
 ⟨h.os, h.tape, h.output, by simpa [World.setCell] using h.size, fun k hk hne => (Below.heap_setCell w ⟨g, i, none⟩ u k (by intro e; exact hne (by rw [e]))).trans (h.block k hk hne)⟩
def twoW (w : World) : World := (w.alloc (.cells (Array.replicate 32 (Value.int .u8 0)) 80)).alloc (.cells (Array.replicate 32 (Value.int .u8 0)) 80)
theorem twoZ (w : World) : RowIn (twoW w) (w.heap.size + 1) 80 .u8 (List.replicate 32 0) ∧ RowIn (twoW w) w.heap.size 80 .u8 (List.replicate 32 0) ∧ Below w.heap.size w (twoW w) ∧ (twoW w).heap.size = w.heap.size + 1 + 1 := by
 have h0 : RowIn (w.alloc (.cells (Array.replicate 32 (Value.int .u8 0)) 80)) w.heap.size 80 .u8 (List.replicate 32 0) := row_new w 80 .u8 (List.replicate 32 0)
 have b0 := below_alloc w (.cells (Array.replicate 32 (Value.int .u8 0)) 80)
 have z0 := alloc_size w (.cells (Array.replicate 32 (Value.int .u8 0)) 80)
 unfold twoW
 generalize World.alloc w _ = w0 at *
 have h1 : RowIn (w0.alloc (.cells (Array.replicate 32 (Value.int .u8 0)) 80)) w0.heap.size 80 .u8 (List.replicate 32 0) := row_new w0 80 .u8 (List.replicate 32 0)
 have b1 := below_alloc w0 (.cells (Array.replicate 32 (Value.int .u8 0)) 80)
 have z1 := alloc_size w0 (.cells (Array.replicate 32 (Value.int .u8 0)) 80)
 generalize World.alloc w0 _ = w1 at *
 rw [z0] at h1 z1
 exact ⟨h1, h0.below b1 (by omega), b0.trans (b1.mono (by omega)), z1⟩
theorem refParse_any (s : ByteArray) (w : World) :
 Calls Tryz.prog 73 #[.string s] w fun e w' => e = .returned (.tuple #[.agg ((ppby s.data.toList).map (Value.int .u8)).toArray, .bool (ppok s.data.toList)]) ∧ Below w.heap.size w w' := by
 have hbz := bzD
 have h7e : s.data.toList.take 7 = (s.extract 0 7).toList := by rw [Lib.toList_data, ext_data]; rfl
 have hpk : ppok s.data.toList = (decide ((s.extract 0 7).toList = [115, 104, 97, 50, 53, 54, 58]) && pok (s.extract 7 s.size).data.toList 32) := by
  unfold ppok; rw [h7e, ext_data, List.take_of_length_le (by rw [← Lib.size_eq]; exact Nat.le_refl _)]; rfl
 have hex : (s.extract 7 s.size).data.toList = s.data.toList.drop 7 := by rw [ext_data, List.take_of_length_le (by rw [← Lib.size_eq]; exact Nat.le_refl _)]
 have hz0 : ppok s.data.toList = false → ppby s.data.toList = List.replicate 32 0 := fun h => by unfold ppby; rw [if_neg (by rw [h]; simp)]
 obtain ⟨t1, t2, t3, t4⟩ := twoZ w
 by_cases h71 : s.size = 71
 ·have e2 : (s.size : Int) = 71 := by omega
  by_cases ht : (s.extract 0 7).toList = [115, 104, 97, 50, 53, 54, 58]
  ·have ht1 : ((s.extract 0 7).toList == [115, 104, 97, 50, 53, 54, 58]) = true := by rw [beq_iff_eq]; exact ht
   have ht2 : (!((s.extract 0 7).toList == [115, 104, 97, 50, 53, 54, 58])) = false := by rw [ht1]; rfl
   rw [decide_eq_true ht, Bool.true_and, h71] at hpk
   rw [h71] at hex
   have hpb : ppby s.data.toList = pby (s.extract 7 71).data.toList 32 := by unfold ppby pby; rw [hpk, hex]
   have HPK := zh hpk; have HPB := zh hpb
   obtain ⟨S, hS⟩ : ∃ S, s.extract 7 71 = S := ⟨_, rfl⟩
   rw [hS] at HPK HPB
   clear ht hz0 hpk hpb h7e hex
   go_enter Tryz.func73, Tryz.ntmps73
   go_wp2_with fail
   generalize hw1 : World.alloc (World.alloc w _) _ = w1
   have hw2 : twoW w = w1 := hw1
   rw [hw2] at t1 t2 t3 t4
   clear hw1 hw2 hS
   refine (refUnhex_any S 32 w1 (by omega)).mono ?_
   rintro e w2 ⟨sp, cap, rfl, hsrc, hb2, hab⟩
   have HR2 := zh (t1.below hb2 (by omega))
   have HR0 := zh (t2.below hb2 (by omega))
   have HBE : Hid (Below w.heap.size w w2) := t3.trans (hb2.mono (by omega))
   have hz2 : w.heap.size + 1 + 1 ≤ w2.heap.size := by have := hb2.size; omega
   have hpl : pby S.data.toList 32 = wayZ (if pok S.data.toList 32 = true then hbs S.data.toList 32 else []) 32 (if pok S.data.toList 32 = true then 32 else 0) := by
    unfold pby
    split
    ·rw [wayZ_full (hbs_length _ _)]
    ·rfl
   have hN : (if pok S.data.toList 32 = true then 32 else 0) ≤ 32 := by split <;> omega
   obtain ⟨N, hNe⟩ : ∃ N, (if pok S.data.toList 32 = true then 32 else 0) = N := ⟨_, rfl⟩
   obtain ⟨L, hLe⟩ : ∃ L, (if pok S.data.toList 32 = true then hbs S.data.toList 32 else []) = L := ⟨_, rfl⟩
   rw [hNe] at hpl hN hsrc ⊢
   rw [hLe] at hpl hsrc
   obtain ⟨ok, hok⟩ : ∃ b, pok S.data.toList 32 = b := ⟨_, rfl⟩
   rw [hok]
   have HPL := zh hpl; have HOK := zh hok; have HSRC := zh hsrc; have HLL := zh hsrc.len
   have HAB : Hid (∀ a, sp = some a → w.heap.size + 1 + 1 ≤ a.block) := fun a ha => by have := hab a ha; omega
   have HR20 : Hid (RowIn w2 (w.heap.size + 1) 80 .u8 (wayZ L 32 0)) := by show RowIn _ _ _ _ _; rw [wayZ_zero]; exact HR2.out
   clear hNe hLe hok hpl hsrc hab hb2 t1 t2 t3 t4 HR2
   go_wp2_with fail
   go_loopw [7] (fun i wr => ∃ k : Nat, k ≤ N ∧ i = .int .i64 k ∧ Hid (RowIn wr (w.heap.size + 1) 80 .u8 (wayZ L 32 k)) ∧ Hid (w2.grownBy wr (some (w.heap.size + 1)))) (fun i _ => N - (intOf i).toNat)
   case atStart => exact ⟨0, Nat.zero_le _, rfl, HR20.out, World.grownBy.refl _ _⟩
   case round =>
    clear HR20
    obtain ⟨k, hk, rfl, hrow, hgr⟩ := hrel
    have hgz := hgr.out.size
    by_cases hlt : k < N
    ·have hd : decide ((k : Int) < (N : Int)) = true := by simp; omega
     obtain ⟨bb, off, rfl, hbb, hcap, hc⟩ := HSRC.out.cells (by omega)
     have hne := HAB.out _ rfl
     have c1 := (World.cell?_of_block (a := ⟨bb, off + k, none⟩) (hgr.out.block bb hbb (by intro e; have e' := Option.some.inj e; have hne' : w.heap.size + 1 + 1 ≤ bb := hne; omega))).trans (hc k hlt)
     have hwl : (wayZ L 32 k).length = 32 := wayZ_length (by omega) (by rw [HLL.out]; omega)
     have c2 := hrow.out.get k (by rw [hwl]; omega)
     have f2 := hrow.out.free k
     obtain ⟨y, hy⟩ : ∃ y, (wayZ L 32 k).getD k 0 = y := ⟨_, rfl⟩
     rw [hy] at c2
     have hst := wayZ_set (L := L) (n := 32) (k := k) (by omega) (by rw [HLL.out]; exact hlt)
     have p1 : (0 : Int) ≤ (k : Int) := by omega
     have p2 : (k : Int) < (N : Int) := by omega
     have p3 : (k : Int) < 32 := by omega
     obtain ⟨x, hx⟩ : ∃ x, L.getD k 0 = x := ⟨_, rfl⟩
     rw [hx] at c1 hst
     have HE : Hid (RowIn (wr.setCell ⟨w.heap.size + 1, k, none⟩ (.int .u8 x)) (w.heap.size + 1) 80 .u8 (wayZ L 32 (k + 1)) ∧ w2.grownBy (wr.setCell ⟨w.heap.size + 1, k, none⟩ (.int .u8 x)) (some (w.heap.size + 1))) := by
      have h1 := hrow.out.put k x
      rw [hst] at h1
      exact ⟨h1, grown_setJ hgr.out _ _⟩
     clear hne hc hwl hy hst hx hrow hgr hbz
     go_wp2_with fail
     go_roundw
     case rel => exact ⟨k + 1, by omega, by go_num, HE.out.1, HE.out.2⟩
     case measure => simp [intOf]; omega
    ·obtain rfl : N = k := by omega
     have hd : decide ((N : Int) < (N : Int)) = false := by simp
     have hwl : (wayZ L 32 N).length = 32 := wayZ_length (by omega) (by rw [HLL.out]; exact Nat.le_refl _)
     have hpl := HPL.out
     have HR9 := zh (HR0.out.grown hgr.out (by omega))
     have HB9 : Hid (Below w.heap.size w wr) := HBE.out.trans ((below_of_grown hgr.out (by omega)).mono (by omega))
     obtain ⟨M, hM⟩ : ∃ M, wayZ L 32 N = M := ⟨_, rfl⟩
     rw [hM] at hrow hwl hpl
     have HPL2 := zh hpl
     have HI := zh (row_info32 M hwl); have HO := zh (oneCell_map .u8 M); have HS := zh (row_sizes (List.replicate 32 0) M (by rw [hwl]; simp))
     clear hM hwl hpl HPL hgr hbz
     go_wp2_with (first
      | (refine wpList_load_row rfl 80 _ rfl (w.heap.size + 1) rfl 80 _ (0, 0) _ hrow.out Tryz.underlying80 rfl HI.out ?_)
      | (refine wpList_store_row rfl 80 _ _ rfl w.heap.size _ rfl rfl 80 _ HR9.out HI.out HS.out HO.out ?_))
     exact bodyPost_ret (results_row_tmp (P := Tryz.prog) rfl _ _ w.heap.size 80 _ (0, 0) _ rfl (HR9.out.setRow _) Tryz.underlying80 rfl HI.out) rfl ⟨by rw [HPB.out, HPL2.out, HPK.out, HOK.out]; rfl, below_setRow HB9.out (Nat.le_refl _) _⟩
  ·have ht1 : ((s.extract 0 7).toList == [115, 104, 97, 50, 53, 54, 58]) = false := by rw [beq_eq_false_iff_ne]; exact ht
   have ht2 : (!((s.extract 0 7).toList == [115, 104, 97, 50, 53, 54, 58])) = true := by rw [ht1]; rfl
   rw [decide_eq_false ht, Bool.false_and] at hpk
   have HP := zh hpk
   have HPB := zh (hz0 hpk)
   have HR1 := zh t1; have HR0 := zh t2; have HBE1 := zh t3
   have HI0 : Hid ((Tryz.prog.info? 80).map (·.size) = some (zrow 32).size) := row_info32 (List.replicate 32 0) (by simp)
   have HO0 : Hid ((zrow 32).all (·.oneCell') = true) := oneCell_map .u8 _
   have HS0 : Hid (((List.replicate 32 (0 : Int)).map (Value.int .u8)).toArray.size = (zrow 32).size) := rfl
   clear ht hpk h7e hex t1 t2 t3 t4 hz0
   go_enter Tryz.func73, Tryz.ntmps73
   go_wp2_with (first
    | (refine wpList_load_row rfl 80 _ rfl (w.heap.size + 1) rfl 80 _ (0, 0) _ HR1.out Tryz.underlying80 rfl HI0.out ?_)
    | (refine wpList_store_row rfl 80 _ _ rfl w.heap.size (zrow 32) rfl rfl 80 _ HR0.out HI0.out HS0.out HO0.out ?_))
   exact bodyPost_ret (results_row_tmp (P := Tryz.prog) rfl _ _ w.heap.size 80 (zrow 32) (0, 0) _ rfl (setRow_heap _ _ _ _ _ _ HR0.out) Tryz.underlying80 rfl HI0.out) rfl ⟨by rw [HPB.out, HP.out]; rfl, below_setRow HBE1.out (Nat.le_refl _) _⟩
 ·have e1 : ((s.size : Int) != 71) = true := by rw [bne_iff_ne]; omega
  have e2 : ¬ (s.size : Int) = 71 := by omega
  have hpk2 : ppok s.data.toList = false := by
   cases h : ppok s.data.toList
   ·rfl
   ·exfalso; apply h71
    rw [hpk, Bool.and_eq_true, decide_eq_true_eq] at h
    have h2 := h.2
    have h3 := congrArg List.length h.1
    rw [← h7e, List.length_take] at h3
    unfold pok at h2
    rw [hex] at h2
    simp only [Bool.and_eq_true, decide_eq_true_eq, List.length_drop] at h2
    have h4 : min 7 s.data.toList.length = 7 := h3
    rw [Lib.size_eq]; omega
  have HP := zh hpk2
  have HPB := zh (hz0 hpk2)
  have HR1 := zh t1; have HR0 := zh t2; have HBE1 := zh t3
  have HI0 : Hid ((Tryz.prog.info? 80).map (·.size) = some (zrow 32).size) := row_info32 (List.replicate 32 0) (by simp)
  have HO0 : Hid ((zrow 32).all (·.oneCell') = true) := oneCell_map .u8 _
  have HS0 : Hid (((List.replicate 32 (0 : Int)).map (Value.int .u8)).toArray.size = (zrow 32).size) := rfl
  clear hpk hpk2 h7e hex t1 t2 t3 t4 hz0 h71
  go_enter Tryz.func73, Tryz.ntmps73
  go_wp2_with (first
   | (refine wpList_load_row rfl 80 _ rfl (w.heap.size + 1) rfl 80 _ (0, 0) _ HR1.out Tryz.underlying80 rfl HI0.out ?_)
   | (refine wpList_store_row rfl 80 _ _ rfl w.heap.size (zrow 32) rfl rfl 80 _ HR0.out HI0.out HS0.out HO0.out ?_))
  exact bodyPost_ret (results_row_tmp (P := Tryz.prog) rfl _ _ w.heap.size 80 (zrow 32) (0, 0) _ rfl (setRow_heap _ _ _ _ _ _ HR0.out) Tryz.underlying80 rfl HI0.out) rfl ⟨by rw [HPB.out, HP.out]; rfl, below_setRow HBE1.out (Nat.le_refl _) _⟩
def RawRes (w : World) (r : Option (List En)) (e : Ending) (w' : World) : Prop := match r with
 | none => e = .returned (.tuple #[.slice none 0 0, .bool false]) ∧ Below w.heap.size w w'
 | some l => ∃ sp cap, e = .returned (.tuple #[.slice sp l.length cap, .bool true]) ∧ OwnE w' w.heap.size (.slice sp l.length cap) l ∧ Below w.heap.size w w'
theorem rawRes_none {w w' : World} {r : Option (List En)} {e : Ending} (h : r = none) (he : e = .returned (.tuple #[.slice none 0 0, .bool false])) (hb : Below w.heap.size w w') : RawRes w r e w' := by subst h; exact ⟨he, hb⟩
theorem rawRes_some {w w' : World} {r : Option (List En)} {l : List En} {e : Ending} {sp : Option Addr} {n cap : Nat} (h : r = some l) (hn : n = l.length) (he : e = .returned (.tuple #[.slice sp n cap, .bool true])) (ho : OwnE w' w.heap.size (.slice sp n cap) l) (hb : Below w.heap.size w w') : RawRes w r e w' := by subst h; subst hn; exact ⟨sp, cap, he, ho, hb⟩
theorem Raw_any (tag : ByteArray) (pa : Option Addr) (np ncap : Nat) (ls : List Ln) (w : World) (hp : LinesIn w w.heap.size pa np ls) (hn : np ≤ 100000) (hmax2 : ∀ q ∈ ls, q.n ≤ 9223372036854775807) (hsz : ∀ q ∈ ls, ∀ t p f, q.l = [t, p, f] → f.size ≤ 9223372036854775807) :
 Calls Tryz.prog 35 #[.string tag, .slice pa np ncap] w (RawRes w (rawL tag (wordsOf ls))) := by
 have HP := zh hp; have HM2 := zh hmax2; have HSZ0 := zh hsz
 clear hp hmax2 hsz
 go_enter Tryz.func35, Tryz.ntmps35
 go_wp2_with fail
 go_loopw [6, 7] (fun v i wr => ∃ (k : Nat) (done : List En) (sp' : Option Addr) (cap' : Nat), k ≤ np ∧ i = .int .i64 k ∧ v = .slice sp' k cap' ∧ Hid (k = done.length) ∧ Hid (rawL tag (wordsOf ls) = (rawL tag ((wordsOf ls).drop k)).map (done ++ ·)) ∧ Hid (OwnE wr w.heap.size (.slice sp' k cap') done) ∧ Hid (Below w.heap.size w wr)) (fun _ i _ => np - (intOf i).toNat)
 case atStart => exact ⟨0, [], _, _, Nat.zero_le _, rfl, rfl, rfl, by show _ = _; simp, OwnE.nil _ _, Below.refl _ _⟩
 case round =>
  obtain ⟨k, done, sp', cap', hk, rfl, rfl, HKL, HRD, hown, hbe⟩ := hrel
  have hbs := hbe.out.size
  by_cases hlt : k < np
  ·have hd : decide ((k : Int) < (np : Int)) = true := by simp; omega
   have hkl : k < ls.length := by rw [HP.out.len]; exact hlt
   obtain ⟨pb, po, rfl, hpb, hpc⟩ := HP.out.cells (by omega)
   obtain ⟨q, hq⟩ : ∃ q, ls[k]'hkl = q := ⟨_, rfl⟩
   have hmem : q ∈ ls := by rw [← hq]; exact List.getElem_mem hkl
   have hLC := fun W (hb : Below w.heap.size w W) => (hb.cell (p := ⟨pb, po + k, none⟩) hpb).trans (hpc k hkl)
   rw [hq] at hLC
   have hstr := HP.out.each q hmem
   have hsz := HSZ0.out q hmem
   have hln : (wordsOf ls)[k]? = some q.l := by rw [wordsOf_get? ls k hkl, hq]
   have HSTOP : Hid (rawL tag (wordsOf ls) = (rawL tag ((wordsOf ls).drop k)).map (done ++ ·) → rawL tag (wordsOf ls) = none) ∨ Hid (∃ x, rd1 tag q.l = some x) := by
    cases hr : rd1 tag q.l with
    | none => exact .inl (fun h => rawL_stop h hln hr)
    | some x => exact .inr ⟨x, rfl⟩
   have hstop : rd1 tag q.l = none → Hid (rawL tag (wordsOf ls) = (rawL tag ((wordsOf ls).drop k)).map (done ++ ·) → rawL tag (wordsOf ls) = none) := fun hr h => rawL_stop h hln hr
   have hstep : ∀ x, rd1 tag q.l = some x → Hid (rawL tag (wordsOf ls) = (rawL tag ((wordsOf ls).drop (k + 1))).map ((done ++ [x]) ++ ·)) := fun x hr => rawL_step HRD.out hln hr
   clear HSTOP
   obtain ⟨qsp, qn, qcap, ql⟩ := q
   have hl1 : wr.cell? ⟨pb, po + k, none⟩ = some (.slice qsp qn qcap) := hLC wr hbe.out
   have hmx : qn ≤ 9223372036854775807 := HM2.out _ hmem
   have p1 : (0 : Int) ≤ (k : Int) := by omega
   have p2 : (k : Int) < (np : Int) := by omega
   have q1 : IntKind.i64.wrap (k : Int) = (k : Int) := IntWalk.i64_in _ (by omega)
   simp only at hstr hsz hstop hstep
   have hqn := hstr.len
   clear hq hmem hpc hln
   by_cases h3 : qn = 3
   case neg =>
    have e1 : ((qn : Int) != 3) = true := by rw [bne_iff_ne]; omega
    have HSTOP := hstop (rd1_len (by omega))
    clear hstop hstep hstr hsz hLC
    go_wp2_with fail
    go_ret2
    exact rawRes_none (HSTOP.out HRD.out) rfl hbe.out
   subst h3
   obtain ⟨t, p, f, rfl⟩ := three_of hqn
   obtain ⟨b2, o2, rfl, hb2, g⟩ := hstr.cells (by omega)
   have hCW : ∀ W, Below w.heap.size w W → (W.cell? ⟨b2, o2, none⟩ = some (.string t) ∧ W.cell? ⟨b2, o2 + 2, none⟩ = some (.string f)) ∧ (W.cell? ⟨pb, po + k, none⟩ = some (.slice (some ⟨b2, o2, none⟩) 3 qcap) ∧ W.cell? ⟨b2, o2 + 1, none⟩ = some (.string p)) := fun W hb => by
    have g0 := (hb.cell (p := ⟨b2, o2 + 0, none⟩) hb2).trans (g 0 (by simp))
    have g1 := (hb.cell (p := ⟨b2, o2 + 1, none⟩) hb2).trans (g 1 (by simp))
    have g2 := (hb.cell (p := ⟨b2, o2 + 2, none⟩) hb2).trans (g 2 (by simp))
    exact ⟨⟨g0, g2⟩, ⟨hLC W hb, g1⟩⟩
   have HCX := zh hCW
   have hc0 := (HCX.out wr hbe.out).1.1
   have hc2 := (HCX.out wr hbe.out).1.2
   have HCW : Hid (∀ W, Below w.heap.size w W → (W.cell? ⟨pb, po + k, none⟩ = some (.slice (some ⟨b2, o2, none⟩) 3 qcap) ∧ W.cell? ⟨b2, o2 + 1, none⟩ = some (.string p))) := fun W hb => (HCX.out W hb).2
   have HSZ := zh hsz
   clear hCW HCX g hstr hqn hLC hsz
   have e1 : ((3 : Int) != 3) = false := by decide
   by_cases ht : t = tag
   case neg =>
    have e2 : (!(t.toList == tag.toList)) = true := by rw [Bool.not_eq_true', beq_eq_false_iff_ne]; exact fun e => ht (toList_inj e)
    have HSTOP := hstop (rd1_tag ht)
    clear hstop hstep ht
    go_wp2_with fail
    go_ret2
    exact rawRes_none (HSTOP.out HRD.out) rfl hbe.out
   subst ht
   have e2 : (!(t.toList == t.toList)) = false := by simp
   have HPA : Hid (∀ W, Calls Tryz.prog 73 #[.string f] W fun e w' => e = .returned (.tuple #[.agg ((ppby f.data.toList).map (Value.int .u8)).toArray, .bool (ppok f.data.toList)]) ∧ Below W.heap.size W w') := fun W => refParse_any f W
   have HP32 : Hid (OkE ⟨p, ppby f.data.toList⟩) := ppby_byt _
   have HI1 : Hid ((Tryz.prog.info? 80).map (·.size) = some ((ppby f.data.toList).map (Value.int .u8)).toArray.size) := by show _ = _; rw [List.size_toArray]; exact info_d HP32.out
   have HI1s : Hid (32 = ((ppby f.data.toList).map (Value.int .u8)).toArray.size) := by show _ = _; rw [List.size_toArray]; simpa using (show 32 = (ppby f.data.toList).length from HP32.out.1.symm)
   cases hok : ppok f.data.toList with
   | false =>
     have HSTOP := hstop (rd1_bad hok)
     rw [hok] at HPA
     clear hstop hstep hok
     go_wp2_with fail
     refine (HPA.out _).mono ?_
     rintro e w3 ⟨rfl, hb3⟩
     have HB3 := zh (hbe.out.trans (hb3.mono hbs)); have HO3 := zh (hown.out.below hb3); clear hb3
     go_wp2_with (first | (refine wpList_store_row rfl 80 _ _ rfl w3.heap.size _ rfl rfl 80 _ (heap_alloc_new w3 _) HI1.out ((rfl : ((Array.replicate 32 (Value.int .u8 0))).size = 32).trans HI1s.out) (dgA_one _) ?_; rw [setRow_new]; generalize hw4 : World.alloc w3 _ = w4; have hd4 : DgB w4 w3.heap.size (ppby f.data.toList) := (by rw [← hw4]; exact heap_alloc_new _ _); have hb4 : Below w3.heap.size w3 w4 := (by rw [← hw4]; exact (Below.refl _ _).alloc (Nat.le_refl _) _); have HD4 := zh hd4; have HB4 := zh (HB3.out.trans (hb4.mono HB3.out.size)); have HO4 := zh (HO3.out.below hb4); clear hw4 hd4 hb4))
     go_ret2
     exact rawRes_none (HSTOP.out HRD.out) rfl HB4.out
   | true =>
     have HSTEP := hstep _ (rd1_good hok)
     rw [hok] at HPA
     clear hstop hstep hok
     go_wp2_with fail
     refine (HPA.out _).mono ?_
     rintro e w3 ⟨rfl, hb3⟩
     have HB3 := zh (hbe.out.trans (hb3.mono hbs)); have HO3 := zh (hown.out.below hb3); clear hb3
     have hl4 := fun W hb => (HCW.out W hb).1
     go_wp2_with (first | (refine wpList_store_row rfl 80 _ _ rfl w3.heap.size _ rfl rfl 80 _ (heap_alloc_new w3 _) HI1.out ((rfl : ((Array.replicate 32 (Value.int .u8 0))).size = 32).trans HI1s.out) (dgA_one _) ?_; rw [setRow_new]; generalize hw4 : World.alloc w3 _ = w4; have hd4 : DgB w4 w3.heap.size (ppby f.data.toList) := (by rw [← hw4]; exact heap_alloc_new _ _); have hb4 : Below w3.heap.size w3 w4 := (by rw [← hw4]; exact (Below.refl _ _).alloc (Nat.le_refl _) _); have HD4 := zh hd4; have HB4 := zh (HB3.out.trans (hb4.mono HB3.out.size)); have HO4 := zh (HO3.out.below hb4); clear hw4 hd4 hb4))
     refine wp_region_held_drew (S := fun w' => (w'.cell? ⟨pb, po + k, none⟩ = some (.slice (some ⟨b2, o2, none⟩) 3 qcap) ∧ w'.cell? ⟨b2, o2 + 1, none⟩ = some (.string p)) ∧ DgB w' w3.heap.size (ppby f.data.toList)) (by kernel_rfl) ⟨HCW.out _ HB4.out.drew, HD4.out⟩ (fun hHeld => ?_)
     refine zv 0 rfl ?_
     refine zv 1 rfl ?_
     refine zv 2 rfl ?_
     refine zv 3 rfl ?_
     refine zx 4 rfl (v := ?_) ?_ ?_; rotate_left
     ·intro w' hSw; have h1 := hSw.1.1; go_simp; try with_reducible rfl
     refine zv 5 rfl ?_
     refine zx 6 rfl (v := ?_) ?_ ?_; rotate_left
     ·intro w' hSw; have h1 := hSw.1.2; go_simp; try with_reducible rfl
     refine' zk 7 rfl (v := _) (yieldsIf_load_mid (by rfl) _ _ rfl _ _ rfl _ _ ?hS7n15 Tryz.underlying80 rfl (info_d HP32.out)) ?rest7n15
     case hS7n15 =>
      intro w' hSw
      exact hSw.2.all
     try simp only [Act.put, zuA, zuB, zuC, zuD, zuY, zuF]
     refine zk 8 rfl (v := _) (yieldsIf_buildS (by rfl) 82 [(0, .tmp 50), (1, .tmp 51)] rfl [(0, .string p), (1, .agg ((ppby f.data.toList).map (Value.int .u8)).toArray)] rfl _ (fun w' _ => buildE p (ppby f.data.toList) HP32.out.1 w')) ?rest8n16
     try simp only [Act.put, zuA, zuB, zuC, zuD, zuY, zuF]
     refine zr 9 rfl (fun K hK => ?_)
     rw [if_pos (by rfl)]
     refine wp_slice_eqS 29 1 [(0, .tmp 52)] rfl [(0, .agg (enL ⟨p, ppby f.data.toList⟩).toArray)] rfl _ _ (sliceE _ ⟨p, ppby f.data.toList⟩ HP32.out) ?_
     generalize hw5 : World.alloc w4.drew _ = w5
     have he5 : EnB w5 w4.heap.size ⟨p, ppby f.data.toList⟩ := by rw [← hw5]; exact heap_alloc_new w4.drew _
     have hb5 : Below w4.heap.size w4 w5 := by rw [← hw5]; exact ((Below.refl _ w4).drew).alloc (Nat.le_refl _) _
     have HE5 := zh he5
     have HB5 := zh (HB4.out.trans (hb5.mono HB4.out.size))
     have HO5 := zh (HO4.out.below hb5)
     have HD5 := zh (HD4.out.belowL hb5)
     have hs5 := HB5.out.size
     have hs4 := HB4.out.size
     clear hw5 he5 hb5
     refine hK.out _ _ ⟨HCW.out _ HB5.out, HD5.out⟩ fun _ => ?_; clear hK K
     try simp only [Act.put, zuA, zuB, zuC, zuD, zuY, zuF]
     refine zr 10 rfl (fun K hK => ?_)
     rw [if_pos (by rfl)]
     refine wp_append_enS (.tmp 44) (.tmp 53) rfl w.heap.size _ done k HKL.out rfl HO5.out w4.heap.size ⟨p, ppby f.data.toList⟩ rfl HE5.out HP32.out (by omega) (by omega) ?_
     intro sp6 cap6 w6 HO6 HB6 HG6
     have HB7 := zh (HB5.out.trans HB6.out)
     have HD6 := zh (HD5.out.keptL HO5.out.1 HG6.out)
     refine hK.out _ _ ⟨HCW.out _ HB7.out, HD6.out⟩ fun _ => ?_; clear hK K
     try simp only [Act.put, zuA, zuB, zuC, zuD, zuY, zuF]
     refine zv 11 rfl ?_
     refine zd ?_ _
     clear hHeld
     go_wp2_with fail
     go_roundw
     case rel => exact ⟨k + 1, done ++ [⟨p, ppby f.data.toList⟩], sp6, cap6, by omega, by go_num, rfl, by show _ = _; rw [List.length_append, ← HKL.out]; rfl, HSTEP, HO6, HB7⟩
     case measure => simp [intOf]; omega
  ·obtain rfl : k = np := by omega
   have hd : decide ((k : Int) < (k : Int)) = false := by simp
   have HEND : Hid (rawL tag (wordsOf ls) = some done) := rawL_end HRD.out (by rw [wordsOf_length, HP.out.len]; exact Nat.le_refl _)
   go_wp2_with fail
   go_ret2
   exact rawRes_some HEND.out HKL.out rfl hown.out hbe.out
end Go.Proofs.YtecllfbadciaoaaGreatDoor
