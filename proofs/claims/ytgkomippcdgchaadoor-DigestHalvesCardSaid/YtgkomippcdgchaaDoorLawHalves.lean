/-
  The walk of the statement DigestHalves: it returns true for every argument that reads as a list of lists of bytes (the table of constants reads as it is laid).
-/
import Derived.Test.YtgkomippcdgchaaDoorShaL
import Derived.Deep.RegionHeld3
namespace Go.Proofs.YtgkomippcdgchaaDoor
open Go.RowKit

theorem hf_size (l : List Int) : (hf l).size = 16 := by simp [hf, dbytes_length, St.list_length]
theorem hf_one (l : List Int) : (hf l).all (·.oneCell') = true := oneCell_map _ _
theorem hf_info (l : List Int) : (Tryd.prog.info? 30).map (·.size) = some (hf l).size := by rw [hf_size]; exact Tryd.info30h
theorem hf_size16 (l : List Int) : (Array.replicate 16 (Value.int .u8 0)).size = (hf l).size := by simp [hf_size]
theorem dg_size32 (l : List Int) : (Array.replicate 32 (Value.int .u8 0)).size = (dg l).size := by simp [dg_size]
theorem range_below {w w' : World} {b o B : Nat} {cs : List Value} (h : w.rangeAt b o cs) (hb : Below B w w') (hlt : b < B) : w'.rangeAt b o cs := fun j v hv => (hb.cell (p := ⟨b, o + j, none⟩) hlt).trans (h j v hv)
theorem own_base {w : World} {base e size : Nat} {v : Value} {n : Nat} {xs : List Value} (h : w.ownsRow base e size v n xs) : ∀ k, v.ownBlock = some k → base ≤ k := by
  intro k hk
  obtain ⟨_, ⟨rfl, _⟩ | ⟨g, cap, cur, rfl, hb, _⟩⟩ := h
  · cases hk
  · have : g = k := by simpa [Value.ownBlock] using hk
    omega
theorem cat_byt {ps : List Part} (h : ∀ q ∈ ps, Byt q.b) : Byt (cat ps) := fun x hx => by
  unfold cat at hx
  obtain ⟨l, hl, hxl⟩ := List.mem_flatten.1 hx
  obtain ⟨q, hq, rfl⟩ := List.mem_map.1 hl
  exact h q hq x hxl

set_option maxRecDepth 100000 in
set_option maxHeartbeats 1000000 in
theorem halves_any (pa : Option Addr) (np ncap : Nat) (ps : List Part) (w : World) (hp : PartsIn w w.heap.size pa np ps) (hnil : ∀ q ∈ ps, q.sp = none → q.cap = 0) (hk : KayIn w) (hk0 : 0 < w.heap.size) (hmax : np ≤ 9223372036854775807) (hmax2 : ∀ q ∈ ps, q.n ≤ 9223372036854775807) :
    Calls Tryd.prog 4 #[.slice pa np ncap] w fun e w' => e = .returned (.bool true) ∧ Below w.heap.size w w' := by
  by_cases hbig : 50 < np
  · clear hp hnil hk hmax2
    go_enter Tryd.func4, Tryd.ntmps4
    go_wp2
    go_ret
    exact ⟨rfl, Below.refl _ _⟩
  · have HK := Lib.hid hk; have HP := Lib.hid hp; have HNIL := Lib.hid hnil; have HM := Lib.hid hmax2; clear hk hp hnil hmax2
    have hgt : decide ((np : Int) > 50) = false := by simp; omega
    go_enter Tryd.func4, Tryd.ntmps4
    go_wp2_with fail
    go_loopw [3, 4] (fun v i wr => ∃ k : Nat, k ≤ np ∧ i = .int .i64 k ∧ Hid (wr.ownsRow w.heap.size 5 1 v (cat (ps.take k)).length ((cat (ps.take k)).map (Value.int .u8))) ∧ (cat (ps.take k)).length ≤ 1000 * k ∧ Below w.heap.size w wr) (fun _ i _ => np - (intOf i).toNat)
    case atStart => exact ⟨0, by omega, rfl, World.ownsRow_nil _ _ _ _, by simp [cat], Below.refl _ _⟩
    case round =>
      rename_i v _
      obtain ⟨k, hkn, rfl, hown, hlen, hber⟩ := hrel
      by_cases hlt : k < np
      · have hk2 : k < ps.length := by have := HP.out.len; omega
        obtain ⟨pb, po, rfl, hpb, hcell⟩ := HP.out.cells (by omega)
        have ck : wr.cell? ⟨pb, po + k, none⟩ = some (.slice ps[k].sp ps[k].n ps[k].cap) := (hber.cell (p := ⟨pb, po + k, none⟩) hpb).trans (hcell k hk2)
        have hsr : Src wr w.heap.size ps[k].sp ps[k].n ps[k].cap ps[k].b := (HP.out.srcs _ (List.getElem_mem hk2)).below hber (Nat.le_refl _)
        have HCS := Lib.hid (cat_take_succ ps k hk2)
        have HN := Lib.hid (HNIL.out _ (List.getElem_mem hk2))
        have hmx := HM.out _ (List.getElem_mem hk2)
        clear hcell
        generalize ps[k].sp = sp at *
        generalize ps[k].n = n at *
        generalize ps[k].cap = cap at *
        generalize ps[k].b = b at *
        obtain rfl := hsr.len
        have HSR := Lib.hid hsr; clear hsr
        have hsz := hber.size
        by_cases hbn : 1000 < b.length
        · go_wp2
          go_ret
          exact ⟨rfl, hber⟩
        · go_wp2_with (refine wpList_append_src rfl (.tmp 23) (.tmp 27) 22 5 rfl Tryd.underlying22 Tryd.info5a w.heap.size _ (cat (ps.take k)) rfl hown.out _ _ w.heap.size b rfl HSR.out HN.out (by omega) hsz ?_; intro v' w1 hown' hg' _)
          go_roundw
          case rel =>
            exact ⟨k + 1, by omega, by go_num, by rw [HCS.out]; exact hown', by rw [HCS.out, List.length_append]; omega, hber.grown hg' hsz (own_base hown.out)⟩
          case measure => simp [intOf]; omega
      · obtain rfl : k = np := by omega
        have hall : cat (ps.take k) = cat ps := by rw [List.take_of_length_le (by rw [HP.out.len]; exact Nat.le_refl _)]
        rw [hall] at hown hlen
        obtain ⟨sp, cap, rfl, hsrc, hspn⟩ := src_of_own hown.out (cat_byt fun q hq => (HP.out.srcs q hq).byt)
        clear hall hown
        have HSRC := Lib.hid hsrc; have HSN := Lib.hid hspn; clear hsrc hspn
        have hsz := hber.size
        go_wp2_with fail
        refine (Half_any pa k ncap ps wr ((HP.out.below hber (Nat.le_refl _)).below (Below.refl wr.heap.size wr) hsz) (HK.out.below hber hk0) (by omega) (by omega) (by omega)).mono ?_
        rintro e w2 ⟨rfl, hb2⟩
        have hs2 := hb2.size
        have hbe2 := hber.trans (hb2.mono hsz)
        go_wp2_with fail
        refine (Sum_any sp (cat ps).length cap (cat ps) w2 ((HSRC.out.below hb2 (Nat.le_refl _)).more hs2) (HK.out.below hbe2 hk0) (by omega) (by omega)).mono ?_
        rintro e w3 ⟨rfl, hb3⟩
        have hs3 := hb3.size
        have hbe3 := hbe2.trans (hb3.mono hbe2.size)
        clear hbe2
        have HA := Lib.hid (heap_alloc2_old w3 (.cells (Array.replicate 16 (Value.int .u8 0)) 30) (.cells (Array.replicate 32 (Value.int .u8 0)) 25))
        have HB := Lib.hid ((setRow_other ((w3.alloc (.cells (Array.replicate 16 (Value.int .u8 0)) 30)).alloc (.cells (Array.replicate 32 (Value.int .u8 0)) 25)) w3.heap.size (w3.heap.size + 1) (hf (cat ps)) (by omega)).trans (heap_alloc2_new w3 (.cells (Array.replicate 16 (Value.int .u8 0)) 30) (.cells (Array.replicate 32 (Value.int .u8 0)) 25)))
        go_wp2_with (first
          | (refine wpList_store_row rfl 30 _ _ rfl w3.heap.size _ rfl rfl 30 _ HA.out (hf_info _) (hf_size16 _) (hf_one _) ?_)
          | (refine wpList_store_row rfl 25 _ _ rfl (w3.heap.size + 1) _ rfl rfl 25 _ HB.out (dg_info _) (dg_size32 _) (dg_one _) ?_))
        generalize hw4 : World.setRow _ _ _ = w4
        have hr16 : RowIn w4 w3.heap.size 30 .u8 ((dbytes (sha (cat ps)).list).take 16) := by
          rw [← hw4]; exact (setRow_other _ _ _ _ (by omega)).trans (setRow_heap _ _ _ _ _ _ HA.out)
        have hr32 : RowIn w4 (w3.heap.size + 1) 25 .u8 (dbytes (sha (cat ps)).list) := by
          rw [← hw4]; exact setRow_heap _ _ _ _ _ _ HB.out
        have hb4 : Below w3.heap.size w3 w4 := by
          rw [← hw4]; exact below_setRow (below_setRow ((below_alloc _ _).alloc (by simp) _) (Nat.le_refl _) _) (by omega) _
        have hbe4 := hbe3.trans (hb4.mono hbe3.size)
        have hsrc4 : Src w4 w4.heap.size sp (cat ps).length cap (cat ps) := ((((HSRC.out.below hb2 (Nat.le_refl _)).more hs2).below hb3 (Nat.le_refl _)).below (hb4.mono hs3) (Nat.le_refl _)).more (by have := hb4.size; omega)
        have HSRC4 := Lib.hid hsrc4
        have hlt4 : w3.heap.size + 1 < w4.heap.size := hr32.lt
        clear hw4 HA HB hsrc4 HSRC hbe3 hb4 hb3 hb2 hs2 hs3
        have hl16 : ((dbytes (sha (cat ps)).list).take 16).length = 16 := by simp [dbytes_length, St.list_length]
        have hl32 : (dbytes (sha (cat ps)).list).length = 32 := by simp [dbytes_length, St.list_length]
        have HL16 := Lib.hid hl16; have HL32 := Lib.hid hl32; clear hl16 hl32
        go_loopw [7] (fun i wr => ∃ k n : Nat, k ≤ 16 ∧ i = .int .i64 k ∧ wr = w4.drewN n) (fun i _ => 16 - (intOf i).toNat)
        case atStart => exact ⟨0, 0, by omega, rfl, rfl⟩
        case round =>
          obtain ⟨j, n, hj, rfl, hwr⟩ := hrel
          have HWR := Lib.hid hwr; clear hwr
          by_cases hlt2 : j < 16
          · have c1 : wr.cell? ⟨w3.heap.size, j, none⟩ = some (.int .u8 ((dbytes (sha (cat ps)).list).getD j 0)) := by
              rw [HWR.out]
              have := hr16.get j (by rw [HL16.out]; exact hlt2)
              rw [show ((dbytes (sha (cat ps)).list).take 16).getD j 0 = (dbytes (sha (cat ps)).list).getD j 0 by simp [List.getD_eq_getElem?_getD, hlt2]] at this
              exact this
            have c2 : wr.cell? ⟨w3.heap.size + 1, j, none⟩ = some (.int .u8 ((dbytes (sha (cat ps)).list).getD j 0)) := by
              rw [HWR.out]; exact hr32.get j (by rw [HL32.out]; omega)
            generalize (dbytes (sha (cat ps)).list).getD j 0 = x at *
            go_wp2_with fail
            go_quiet (fail)
            go_wp2
            go_roundw
            case rel => exact ⟨j + 1, n + nq, by omega, by go_num, by rw [HWR.out, World.drewN_drewN]⟩
            case measure => simp [intOf]; omega
          · obtain rfl : j = 16 := by omega
            go_wp2_with fail
            have hrA : RowIn wr w3.heap.size 30 .u8 ((dbytes (sha (cat ps)).list).take 16) := by rw [HWR.out]; exact hr16
            have hbr : Below w.heap.size w wr := by rw [HWR.out]; exact below_drewN hbe4 _
            have hszr : wr.heap.size = w4.heap.size := by rw [HWR.out]; rfl
            have hsr5 : Src wr wr.heap.size sp (cat ps).length cap (cat ps) := by rw [HWR.out]; exact HSRC4.out.below (below_drewN (Below.refl w4.heap.size w4) n) (Nat.le_refl _)
            have HSR := Lib.hid hsr5; clear hsr5
            have hg3 : w3.heap.size < wr.heap.size := by omega
            clear hr16 hr32 hbe4 HSRC4 HWR hlt4
            generalize w3.heap.size = g at *
            have hszw := hbr.size
            have hcAw : Calls Tryd.prog 10 #[] wr.drew fun e w' => e = .returned (.bool true) ∧ Below wr.heap.size wr w' :=
              (awake_any wr.drew (HK.out.below hbr.drew hk0) (by show _ < wr.heap.size; omega)).mono fun e w' ⟨he, hb⟩ => ⟨he, (Below.refl _ wr).drew.trans hb⟩
            have HCA := Lib.hid hcAw; clear hcAw
            have hcH : ∀ w5, Below wr.heap.size wr w5 → Calls Tryd.prog 13 #[.slice (some ⟨w5.heap.size, 0, none⟩) 1 1] (w5.alloc (.cells #[.slice sp (cat ps).length cap] 22)) fun e w' => e = .returned (.agg (hf (cat ps))) ∧ Below wr.heap.size wr w' := by
              intro w5 hb5
              have hba := below_alloc w5 (.cells #[.slice sp (cat ps).length cap] 22)
              have hsa := alloc_size w5 (.cells #[.slice sp (cat ps).length cap] 22)
              have hga := heap_alloc_new w5 (.cells #[.slice sp (cat ps).length cap] 22)
              generalize World.alloc w5 _ = w6 at *
              have hs5 := hb5.size
              have hbe6 := hb5.trans (hba.mono hb5.size)
              have hp : PartsIn w6 w6.heap.size (some ⟨w5.heap.size, 0, none⟩) 1 [⟨sp, (cat ps).length, cap, cat ps⟩] := by
                refine parts_block (ps := [⟨sp, (cat ps).length, cap, cat ps⟩]) hga (by omega) ?_
                intro q hq
                rw [List.mem_singleton.1 hq]
                exact (HSR.out.below hbe6 (Nat.le_refl _)).more (by omega)
              have hc : cat [⟨sp, (cat ps).length, cap, cat ps⟩] = cat ps := by simp [cat]
              have := Half_any _ 1 1 [⟨sp, (cat ps).length, cap, cat ps⟩] w6 hp (HK.out.below (hbr.trans (hbe6.mono hbr.size)) hk0) (by omega) (by rw [hc]; omega) (by omega)
              rw [hc] at this
              exact this.mono fun e w' ⟨he, hb⟩ => ⟨he, hbe6.trans (hb.mono hbe6.size)⟩
            have heq := eql_hf (cat ps)
            have hra : wr.rangeAt g 0 (hf (cat ps)).toList := fun j v hv => by
              rw [Nat.zero_add]; exact heap_cell (L := (hf (cat ps)).toList) hrA (by simpa using hv)
            have hlC : (hf (cat ps)).toList.length = 16 := by rw [Array.length_toList, hf_size]
            obtain ⟨C, hC⟩ : ∃ C : List Value, hf (cat ps) = C.toArray := ⟨_, rfl⟩
            rw [hC] at hcH heq hra hlC
            rw [List.toList_toArray] at hra hlC
            have HCH := Lib.hid hcH; clear hcH
            have hu := Tryd.underlying30
            have hi : (Tryd.prog.info? 30).map (·.size) = some C.length := by rw [hlC]; exact Tryd.info30h
            have hone : ∀ v ∈ C, v.oneCell' = true := fun v hv => by
              have := hf_one (cat ps); rw [hC] at this
              exact (Array.all_eq_true_iff_forall_mem.1 this) v (by simpa using hv)
            clear hrA HSR hC
            go_region_held3 (fun w' => w'.rangeAt g 0 C) (first | assumption | exact hra | exact World.rangeAt_drew .. |>.2 hra | exact range_below hra (by assumption) hg3 | exact World.rangeAt_alloc (range_below hra (by assumption) hg3) _) (first | (go_at_call 10; (with_reducible refine HCA.out.mono ?_); rintro e w5 ⟨rfl, hb5⟩) | (go_at_call 13; (with_reducible refine (HCH.out w5 hb5).mono ?_); rintro e w6 ⟨rfl, hb6⟩))
            go_wp2
            go_ret
            exact ⟨rfl, hbr.trans (hb6.mono hszw)⟩
end Go.Proofs.YtgkomippcdgchaaDoor
