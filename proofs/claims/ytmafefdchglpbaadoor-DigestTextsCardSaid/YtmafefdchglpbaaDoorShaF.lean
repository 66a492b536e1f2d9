/-
  The walk of (*digest.hash).write, the other ways: whole blocks go in (conditions as for write_small).
-/
import Derived.Test.YtmafefdchglpbaaDoorShaE
namespace Go.Proofs.YtmafefdchglpbaaDoor
open Go.RowKit

/-- a slice's length -/
def slen : Value → Nat | .slice _ n _ => n | _ => 0
theorem HashIn.spliced {w w2 : World} {hb : Nat} {st : St} {rest : List Int} {used : Nat} {len : Int} (h : HashIn w hb st rest used len) {k : Nat} {c : List Int} (hk : k + c.length ≤ 64)
    (hg : Hid (w2.heap[hb]? = some (.cells (splice (hcells st rest used len) (8 + k) (c.map (Value.int .u8))).toArray 100 (0, 0)))) : HashIn w2 hb st (splice rest k c) used len :=
  ⟨by rw [hg.out, hcells_splice _ _ _ _ _ _ h.rl hk], by rw [length_splice _ _ _ (by rw [h.rl]; exact hk)]; exact h.rl⟩
theorem Src.posTake {w : World} {B : Nat} {sp : Option Addr} {n cap : Nat} {b : List Int} (h : Src w B sp n cap b) (m : Nat) (hp : 0 < ((b.take m).map (Value.int .u8)).length) : ∃ ad, sp = some ad ∧ ∀ j v, ((b.take m).map (Value.int .u8))[j]? = some v → w.cell? (ad.add j) = some v := by
  obtain ⟨ad, e, hc⟩ := h.pos (by simp at hp ⊢; omega)
  refine ⟨ad, e, fun j v hv => hc j v ?_⟩
  rw [List.map_take, List.getElem?_take] at hv
  split at hv
  · exact hv
  · cases hv
theorem Src.cut {w : World} {B bb off n cap : Nat} {b : List Int} (h : Src w B (some ⟨bb, off, none⟩) n cap b) (m : Nat) (hm : m ≤ n) :
    Src w B (if cap = m then some ⟨bb, off, none⟩ else some ⟨bb, off + m, none⟩) (n - m) (cap - m) (b.drop m) := by
  refine ⟨by rw [List.length_drop, h.len], h.byt.drop m, fun hn => ?_⟩
  obtain ⟨b', o', e, hlt, hcap, hc⟩ := h.cells (by omega)
  injection e with e; injection e with e1 e2; subst e1 e2
  refine ⟨bb, off + m, by rw [if_neg (by omega)], hlt, by omega, fun j hj => ?_⟩
  have := hc (m + j) (by omega)
  rw [Nat.add_assoc, this]
  simp [List.getD_eq_getElem?_getD]

set_option maxRecDepth 100000 in
set_option maxHeartbeats 1000000 in
theorem write_zero (hb : Nat) (sp : Option Addr) (n cap : Nat) (b l : List Int) (st : St) (rest : List Int) (w : World) (hh : HashIn w hb st rest 0 l.length) (ha : Has l st rest 0 l.length)
    (hs : Src w hb sp n cap b) (hk : KayIn w) (hk0 : 2 < hb) (hbd : l.length + n ≤ 1099511627776) :
    Calls Tryd.prog 80 #[.pointer (some ⟨hb, 0, none⟩), .slice sp n cap] w (WriteRes hb w (l ++ b)) := by
  obtain rfl := hs.len
  have c73 := hh.lenAt
  have f73 := hh.free 73
  have c72 := hh.usedAt
  have HA := Lib.hid ha; have HS := Lib.hid hs; have HK := Lib.hid hk; clear ha hs hk
  go_enter Tryd.func80, Tryd.ntmps80
  go_wp2_with fail
  generalize hw1 : World.setCell w _ _ = w1
  have hh1 : HashIn w1 hb st rest 0 ((l.length : Int) + b.length) := by rw [← hw1]; exact hh.stored 73 _ hh.rl (hcells_len _ _ _ _ _ hh.rl)
  have hbe1 : Below hb w w1 := by rw [← hw1]; exact (Below.refl hb w).setCell (p := ⟨hb, 73, none⟩) (Nat.le_refl _) _
  clear hw1 c73 f73 c72
  go_loopw [1] (fun v wr => ∃ (k n' cap' : Nat) (ad : Option Addr) (st' : St) (rest' : List Int) (used' : Nat), Hid (n' = b.length - k) ∧ v = .slice ad n' cap' ∧ Src w hb ad n' cap' (b.drop k) ∧ HashIn wr hb st' rest' used' ((l.length : Int) + b.length) ∧ Mid l b k st' ∧ Byt rest' ∧ Below hb w wr) (fun v _ => slen v)
  case atStart => exact ⟨0, _, _, _, st, rest, 0, rfl, rfl, HS.out, hh1, HA.out.mid0 b, HA.out.hbyt, hbe1⟩
  case round =>
    obtain ⟨k, n', cap', ad, st', rest', used', hn', rfl, hsr, hhr, hmr, hbr, hber⟩ := hrel
    clear hh1 hbe1
    have hle := hmr.le
    by_cases hge : 64 ≤ n'
    · obtain ⟨bb, off, rfl, hlt, hcap, hcell⟩ := hsr.cells (by omega)
      have HCELL := Lib.hid hcell; clear hcell
      have hcut := hsr.cut 64 hge
      have HCUT := Lib.hid hcut; clear hcut
      have HNR := Lib.hid hsr; clear hsr
      have HMR := Lib.hid hmr; clear hmr
      go_wp2_with fail
      refine (addBlock_any hb bb off cap' ((b.drop k).take 64) st' rest' used' _ wr (by omega) ?_ ?_ ?_ ?_ (by omega) hhr).mono ?_
      · intro j hj
        rw [hber.cell (p := ⟨bb, off + j, none⟩) hlt, HCELL.out j (by omega)]
        simp [List.getD_eq_getElem?_getD, hj]
      · exact Nat.lt_trans hlt hhr.lt
      · exact ((HNR.out.byt).take 64).at_
      · exact HK.out.below hber (by omega)
      · rintro e w' ⟨rfl, hh', hbe'⟩
        have hh64 : k + 64 ≤ b.length := by have := hn'.out; omega
        go_wp2
        go_roundw
        case rel =>
          refine ⟨k + 64, n' - 64, cap' - 64, _, _, rest', used', by show _ = _; have := hn'.out; omega, rfl, ?_, hh', HMR.out.step hh64, hbr, hber.trans hbe'⟩
          have := HCUT.out
          rw [List.drop_drop] at this
          exact this
        case measure => simp [slen]; omega
    · have hd : (b.drop k).length = n' := hsr.len
      have hn : ((b.drop k).map (Value.int .u8)).length = Nat.min n' 64 := by rw [List.length_map, hd]; exact (Nat.min_eq_left (by omega)).symm
      have HN := Lib.hid hn; clear hn
      have hpos := (hsr.below hber (Nat.le_refl _)).pos
      have HP := Lib.hid hpos; clear hpos
      have hfit : 8 + 0 + ((b.drop k).map (Value.int .u8)).length ≤ (hcells st' rest' used' ((l.length : Int) + b.length)).length := by rw [hcells_length _ _ _ _ hhr.rl, List.length_map, hd]; omega
      have HF := Lib.hid hfit; clear hfit
      have HBK := Lib.hid hhr.blk
      have HD := Lib.hid hd; clear hd
      have HSR := Lib.hid hsr; clear hsr
      have HMR := Lib.hid hmr; clear hmr
      go_wp2_with (refine wpList_copy_splice rfl (.tmp 65) (.tmp 66) 34 34 rfl 5 Tryd.underlying34 Tryd.info5b _ _ _ _ _ _ rfl rfl hb (8 + 0) _ 100 HBK.out ((b.drop k).map (Value.int .u8)) HN.out (fun h => ⟨rfl, HP.out h⟩) HF.out (one_map _ _) hb wr (Below.refl _ _) (Nat.le_refl _) ?_; intro w2 hg2 hb2; have hh2 := hhr.spliced (by rw [HD.out]; omega) hg2; have c72 := hh2.usedAt; have f72 := hh2.free 72; clear hg2)
      generalize hw3 : World.setCell w2 _ _ = w3
      have hh3 : HashIn w3 hb st' (splice rest' 0 (b.drop k)) (b.length - k) ((l.length : Int) + b.length) := by
        rw [← hw3]; exact hh2.stored 72 (.int .i64 ((b.length - k : Nat) : Int)) hh2.rl (hcells_used _ _ _ _ _ hh2.rl)
      have hbe3 : Below hb w w3 := by rw [← hw3]; exact (hber.trans hb2).setCell (p := ⟨hb, 72, none⟩) (Nat.le_refl _) _
      go_end0
      exact ⟨rfl, ⟨_, _, _, _, hh3, HMR.out.fin (by have := hn'.out; omega) hhr.rl hbr HS.out.byt⟩, hbe3⟩
set_option maxRecDepth 100000 in
set_option maxHeartbeats 1000000 in
theorem write_first (hb : Nat) (sp : Option Addr) (n cap : Nat) (b l : List Int) (st : St) (rest : List Int) (used : Nat) (w : World) (hh : HashIn w hb st rest used l.length) (ha : Has l st rest used l.length)
    (hs : Src w hb sp n cap b) (hk : KayIn w) (hk0 : 2 < hb) (hbd : l.length + n ≤ 1099511627776) (h0 : 0 < used) (h1 : 64 ≤ used + n) (hu : used < 64) :
    Calls Tryd.prog 80 #[.pointer (some ⟨hb, 0, none⟩), .slice sp n cap] w (WriteRes hb w (l ++ b)) := by
  obtain rfl := hs.len
  obtain ⟨b0, o0, rfl, hlt0, hcap0, hcell0⟩ := hs.cells (by omega)
  clear hcell0
  have c73 := hh.lenAt
  have f73 := hh.free 73
  have c72 := hh.usedAt
  have HA := Lib.hid ha; have HS := Lib.hid hs; have HK := Lib.hid hk; clear ha hs hk
  go_enter Tryd.func80, Tryd.ntmps80
  go_wp2_with fail
  generalize hw1 : World.setCell w _ _ = w1
  have hh1 : HashIn w1 hb st rest used ((l.length : Int) + b.length) := by rw [← hw1]; exact hh.stored 73 _ hh.rl (hcells_len _ _ _ _ _ hh.rl)
  have hbe1 : Below hb w w1 := by rw [← hw1]; exact (Below.refl hb w).setCell (p := ⟨hb, 73, none⟩) (Nat.le_refl _) _
  have HS1 := Lib.hid (HS.out.below hbe1 (Nat.le_refl _))
  clear hw1 c73 f73 c72
  have c72 := hh1.usedAt
  obtain ⟨m, hm⟩ : ∃ m, m = 64 - used := ⟨_, rfl⟩
  have hm1 : used + m ≤ 64 := by omega
  have hm2 : 64 ≤ used + m := by omega
  clear hm
  have hmb : m ≤ b.length := by omega
  have hct : (b.take m).length = m := by rw [List.length_take]; omega
  have hn : ((b.take m).map (Value.int .u8)).length = Nat.min b.length (64 - used) := by rw [List.length_map, hct]; have : m = 64 - used := by omega
                                                                                         rw [this]; exact (Nat.min_eq_right (by omega)).symm
  have HN := Lib.hid hn; clear hn
  have hsl := slice_rest hb used hu
  have hsa := slice_all hb
  have HB := Lib.hid hh1.blk
  have hpos := HS1.out.posTake m
  have HP := Lib.hid hpos; clear hpos
  have hfit : 8 + used + ((b.take m).map (Value.int .u8)).length ≤ (hcells st rest used ((l.length : Int) + b.length)).length := by rw [hcells_length _ _ _ _ hh1.rl, List.length_map, hct]; omega
  have HF := Lib.hid hfit; clear hfit
  have hmid : Mid l b m (comp st (splice rest used (b.take m))) := by
    have e : m = 64 - used := by omega
    rw [e]; exact HA.out.mid1 b hh.rl h0 h1
  have HMID := Lib.hid hmid; clear hmid
  have hbyt3 : Byt (splice rest used (b.take m)) := HA.out.hbyt.splice (HS.out.byt.take m) used
  have HBYT := Lib.hid hbyt3; clear hbyt3
  have HSRC := Lib.hid (HS.out.cut m hmb)
  obtain ⟨c, hc⟩ : ∃ c, c = b.take m := ⟨_, rfl⟩
  rw [← hc] at hct HN HP HF HMID HBYT
  clear hc
  have HCT := Lib.hid hct; clear hct
  go_region_law (refine step_copy_splice rfl (.tmp 27) (.tmp 28) 34 34 rfl 5 Tryd.underlying34 Tryd.info5b _ _ _ _ _ _ rfl rfl hb (8 + used) _ 100 HB.out (c.map (Value.int .u8)) HN.out (fun h => ⟨rfl, HP.out h⟩) HF.out (one_map _ _) hb w1 ((Below.refl _ _).drew) (Nat.le_refl _) ?_; intro w2 hg2 hb2)
  have hh2 := hh1.spliced (by rw [HCT.out]; omega) hg2
  have hbe2 := hbe1.trans hb2
  clear hg2 hb2 c72 hsl HB HP HF HN hbe1
  simp only [HCT.out]
  have c72 := hh2.usedAt
  have f72 := hh2.free 72
  go_wp2_with fail
  generalize hw3 : World.setCell w2 _ _ = w3
  have hh3 : HashIn w3 hb st (splice rest used c) (used + m) ((l.length : Int) + b.length) := by
    rw [← hw3]; exact hh2.stored 72 (.int .i64 ((used + m : Nat) : Int)) hh2.rl (hcells_used _ _ _ _ _ hh2.rl)
  have hbe3 : Below hb w w3 := by rw [← hw3]; exact hbe2.setCell (p := ⟨hb, 72, none⟩) (Nat.le_refl _) _
  clear hw3 hbe2 hh2 c72 f72
  refine (addBlock_any hb hb 8 64 (splice rest used c) st (splice rest used c) (used + m) _ w3 (by omega) ?_ hh3.lt HBYT.out.at_ (HK.out.below hbe3 (by omega)) (by omega) hh3).mono ?_
  · exact fun j hj => hh3.byte j hj
  rintro e w4 ⟨rfl, hh4, hb4⟩
  have hbe4 := hbe3.trans hb4
  clear hb4 hbe3 hh3
  have hdec : decide ((used : Int) + m < 64) = false := by simp; omega
  go_wp2_with fail
  all_goals
    have hsrc4 := HSRC.out
    first
      | rw [if_neg (by omega)] at hsrc4
      | rw [if_pos (by omega), show cap - m = 0 by omega] at hsrc4
    go_loopw [1] (fun v wr => ∃ (k n' cap' : Nat) (ad : Option Addr) (st' : St) (rest' : List Int) (used' : Nat), Hid (n' = b.length - k) ∧ v = .slice ad n' cap' ∧ Src w hb ad n' cap' (b.drop k) ∧ HashIn wr hb st' rest' used' ((l.length : Int) + b.length) ∧ Mid l b k st' ∧ Byt rest' ∧ Below hb w wr) (fun v _ => slen v)
    case atStart => exact ⟨m, _, _, _, _, _, _, rfl, rfl, hsrc4, hh4, HMID.out, HBYT.out, hbe4⟩
    case round =>
      obtain ⟨k, n', cap', ad, st', rest', used', hn', rfl, hsr, hhr, hmr, hbr, hber⟩ := hrel
      clear hh4 hbe4 hsrc4
      have hle := hmr.le
      by_cases hge : 64 ≤ n'
      · obtain ⟨bb, off, rfl, hlt, hcap, hcell⟩ := hsr.cells (by omega)
        have HCELL := Lib.hid hcell; clear hcell
        have hcut := hsr.cut 64 hge
        have HCUT := Lib.hid hcut; clear hcut
        have HNR := Lib.hid hsr; clear hsr
        have HMR := Lib.hid hmr; clear hmr
        go_wp2_with fail
        refine (addBlock_any hb bb off cap' ((b.drop k).take 64) st' rest' used' _ wr (by omega) ?_ ?_ ?_ ?_ (by omega) hhr).mono ?_
        · intro j hj
          rw [hber.cell (p := ⟨bb, off + j, none⟩) hlt, HCELL.out j (by omega)]
          simp [List.getD_eq_getElem?_getD, hj]
        · exact Nat.lt_trans hlt hhr.lt
        · exact ((HNR.out.byt).take 64).at_
        · exact HK.out.below hber (by omega)
        · rintro e w' ⟨rfl, hh', hbe'⟩
          have hh64 : k + 64 ≤ b.length := by have := hn'.out; omega
          by_cases hc64 : cap' = 64
          · have hcut := HCUT.out
            rw [if_pos hc64, List.drop_drop] at hcut
            have HC2 := Lib.hid hcut; clear hcut
            go_wp2
            go_roundw
            case rel => exact ⟨k + 64, n' - 64, cap' - 64, some ⟨bb, off, none⟩, comp st' ((b.drop k).take 64), rest', used', by show _ = _; have := hn'.out; omega, by first | rfl | simp [hc64], HC2.out, hh', HMR.out.step hh64, hbr, hber.trans hbe'⟩
            case measure => simp [slen]; omega
          · have hcut := HCUT.out
            rw [if_neg hc64, List.drop_drop] at hcut
            have HC2 := Lib.hid hcut; clear hcut
            go_wp2
            go_roundw
            case rel => exact ⟨k + 64, n' - 64, cap' - 64, some ⟨bb, off + 64, none⟩, comp st' ((b.drop k).take 64), rest', used', by show _ = _; have := hn'.out; omega, by first | rfl | simp [hc64], HC2.out, hh', HMR.out.step hh64, hbr, hber.trans hbe'⟩
            case measure => simp [slen]; omega
      · have hd : (b.drop k).length = n' := hsr.len
        have hn : ((b.drop k).map (Value.int .u8)).length = Nat.min n' 64 := by rw [List.length_map, hd]; exact (Nat.min_eq_left (by omega)).symm
        have HN := Lib.hid hn; clear hn
        have hpos := (hsr.below hber (Nat.le_refl _)).pos
        have HP := Lib.hid hpos; clear hpos
        have hfit : 8 + 0 + ((b.drop k).map (Value.int .u8)).length ≤ (hcells st' rest' used' ((l.length : Int) + b.length)).length := by rw [hcells_length _ _ _ _ hhr.rl, List.length_map, hd]; omega
        have HF := Lib.hid hfit; clear hfit
        have HBK := Lib.hid hhr.blk
        have HD := Lib.hid hd; clear hd
        have HSR := Lib.hid hsr; clear hsr
        have HMR := Lib.hid hmr; clear hmr
        go_wp2_with (refine wpList_copy_splice rfl (.tmp 65) (.tmp 66) 34 34 rfl 5 Tryd.underlying34 Tryd.info5b _ _ _ _ _ _ rfl rfl hb (8 + 0) _ 100 HBK.out ((b.drop k).map (Value.int .u8)) HN.out (fun h => ⟨rfl, HP.out h⟩) HF.out (one_map _ _) hb wr (Below.refl _ _) (Nat.le_refl _) ?_; intro w2 hg2 hb2; have hh2 := hhr.spliced (by rw [HD.out]; omega) hg2; have c72 := hh2.usedAt; have f72 := hh2.free 72; clear hg2)
        generalize hw3 : World.setCell w2 _ _ = w3
        have hh3 : HashIn w3 hb st' (splice rest' 0 (b.drop k)) (b.length - k) ((l.length : Int) + b.length) := by
          rw [← hw3]; exact hh2.stored 72 (.int .i64 ((b.length - k : Nat) : Int)) hh2.rl (hcells_used _ _ _ _ _ hh2.rl)
        have hbe3 : Below hb w w3 := by rw [← hw3]; exact (hber.trans hb2).setCell (p := ⟨hb, 72, none⟩) (Nat.le_refl _) _
        go_end0
        exact ⟨rfl, ⟨_, _, _, _, hh3, HMR.out.fin (by have := hn'.out; omega) hhr.rl hbr HS.out.byt⟩, hbe3⟩
end Go.Proofs.YtmafefdchglpbaaDoor
