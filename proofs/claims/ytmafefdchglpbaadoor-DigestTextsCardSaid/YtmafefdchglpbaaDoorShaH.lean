/-
  The walk of (*digest.hash).finish: it returns the digest of all that the hash has taken (conditions: the hash lies in a block of its own behind the table's, the length is at most 2^40).
-/
import Derived.Test.YtmafefdchglpbaaDoorShaG
import Derived.Test.YtmafefdchglpbaaDoorShaN
namespace Go.Proofs.YtmafefdchglpbaaDoor
open Go.RowKit

theorem HashIn.cleared {w w2 : World} {hb : Nat} {st : St} {rest : List Int} {used : Nat} {len : Int} (h : HashIn w hb st rest used len) {k n : Nat} (hk : k + n ≤ 64)
    (hg : Hid (w2.heap[hb]? = some (.cells (splice (hcells st rest used len) (8 + k) (List.replicate n (.int .u8 0))).toArray 100 (0, 0)))) : HashIn w2 hb st (splice rest k (List.replicate n 0)) used len :=
  h.spliced (by simpa using hk) (by rw [List.map_replicate]; exact hg)
theorem slice_behind (hb u : Nat) (h : u < 64) : ∃ dp, (∀ w, (Instr.sliceAt 98 (.pointer (some ⟨hb, 8, none⟩)) (some (.int .i64 ((u : Int) + 1))) none none).run Tryd.prog w = .ok (.slice dp (63 - u) (63 - u)) w) ∧ (0 < 63 - u → dp = some ⟨hb, 8 + (u + 1), none⟩) := by
  by_cases h63 : u = 63
  · subst h63
    refine ⟨some ⟨hb, 8, none⟩, fun w => ?_, fun h => absurd h (by omega)⟩
    rw [run_sliceAt_array_l w 98 _ und58 .i64 _ (by omega) (by rw [len58]; omega), size58, len58]
    simp [slicedAt]
  · refine ⟨some ⟨hb, 8 + (u + 1), none⟩, fun w => ?_, fun _ => rfl⟩
    have := slice_rest hb (u + 1) (by omega) w
    rw [show 64 - (u + 1) = 63 - u by omega] at this
    rw [← this]; rfl

def FinRes (hb : Nat) (w : World) (l : List Int) (e : Ending) (w' : World) : Prop :=
  e = .returned (.agg ((dbytes (sha l).list).map (Value.int .u8)).toArray) ∧ Below hb w w'

set_option maxRecDepth 100000 in
set_option maxHeartbeats 1000000 in
theorem finish_one (hb : Nat) (l : List Int) (st : St) (rest : List Int) (used : Nat) (w : World) (hh : HashIn w hb st rest used l.length) (ha : Has l st rest used l.length)
    (hk : KayIn w) (hk0 : 2 < hb) (hbd : l.length ≤ 1099511627776) (hu : used < 56) :
    Calls Tryd.prog 81 #[.pointer (some ⟨hb, 0, none⟩)] w (FinRes hb w l) := by
  have HK := Lib.hid hk; clear hk
  have hlt := hh.lt
  have hrl := hh.rl
  have hone := sha_one ha hrl hu
  have HONE := Lib.hid hone; clear hone
  have HA := Lib.hid ha; clear ha
  have hres : RowIn (w.alloc (.cells (Array.replicate 32 (Value.int .u8 0)) 23)) w.heap.size 23 .u8 (List.replicate 32 0) := heap_alloc_new _ _
  have hh0 := hh.alloc (.cells (Array.replicate 32 (Value.int .u8 0)) 23)
  have hbe0 : Below w.heap.size w (w.alloc (.cells (Array.replicate 32 (Value.int .u8 0)) 23)) := (Below.refl _ _).alloc (Nat.le_refl _) _
  have HRES := Lib.hid hres; have HH0 := Lib.hid hh0; have HBE0 := Lib.hid hbe0; clear hres hh0 hbe0
  go_enter Tryd.func81, Tryd.ntmps81
  go_wp2_with fail
  generalize hw0 : World.alloc w _ = w0
  have hres : RowIn w0 w.heap.size 23 .u8 (List.replicate 32 0) := by rw [← hw0]; exact HRES.out
  have hh0 : HashIn w0 hb st rest used l.length := by rw [← hw0]; exact HH0.out
  have hbe0 : Below w.heap.size w w0 := by rw [← hw0]; exact HBE0.out
  clear hw0 HRES HH0 HBE0 hh
  have c72 := hh0.usedAt
  have cu := hh0.byte used (by omega)
  have fu := hh0.free (8 + used)
  go_region
  go_wp2_with fail
  generalize hw1 : World.drew _ = w1
  have hh1 : HashIn w1 hb st (rest.set used 128) used l.length := by
    rw [← hw1]; exact (hh0.stored (8 + used) (.int .u8 128) (by rw [List.length_set]; exact hrl) (hcells_byte _ _ _ _ _ _ hrl (by omega))).drew
  have hg1 : w0.grownBy w1 (some hb) := by rw [← hw1]; exact grown_drew (grown_set (World.grownBy.refl _ _) _ _)
  have hres1 := hres.grown hg1 (by omega)
  have hbe1 : Below hb w w1 := (hbe0.mono (by omega)).trans (below_of_grown hg1 (Nat.le_of_lt hh0.lt))
  clear hw1 c72 cu fu hg1 hh0 hres hbe0
  obtain ⟨dp, hsl, hdp⟩ := slice_behind hb used (by omega)
  have HDP := Lib.hid hdp; clear hdp
  have HB := Lib.hid hh1.blk
  have hfit : 8 + (used + 1) + (63 - used) ≤ (hcells st (rest.set used 128) used l.length).length := by rw [hcells_length _ _ _ _ hh1.rl]; omega
  have HF := Lib.hid hfit; clear hfit
  have c72 := hh1.usedAt
  have hwr : IntKind.i64.wrap ((used : Int) + 1) = (used : Int) + 1 := by simp [IntKind.wrap, IntKind.bits, IntKind.signed]; omega
  go_region_law (refine step_clear rfl (.tmp 21) 34 rfl 5 Tryd.underlying34 Tryd.zero5b _ _ _ rfl hb (8 + (used + 1)) _ 100 HB.out HDP.out HF.out w1 (grown_drew (World.grownBy.refl _ _)) ?_; intro w2 hg2 hb2)
  have hh2 := hh1.cleared (by omega) hg2
  rw [mark_zero _ _ hrl (by omega)] at hh2
  have hres2 := hres1.grown hb2 (by omega)
  have hbe2 := hbe1.trans (below_of_grown hb2 (Nat.le_of_lt hh1.lt))
  have hby : Byt (rest.take used ++ (128 :: List.replicate (63 - used) 0)) := (HA.out.hbyt.take _).append (fun x hx => by
    rcases List.mem_cons.1 hx with h | h
    · omega
    · rw [List.eq_of_mem_replicate h]; omega)
  have HBYT := Lib.hid hby; clear hby
  clear hsl HDP HF HB hwr hg2 c72 hb2 hbe1 hres1 hh1
  have c72 := hh2.usedAt
  have c73 := hh2.lenAt
  obtain ⟨rx, hrx⟩ : ∃ rx, rx = rest.take used ++ (128 :: List.replicate (63 - used) 0) := ⟨_, rfl⟩
  rw [← hrx] at hh2 HBYT HONE
  clear hrx
  go_wp2_with fail
  clear c72 c73
  go_loopw [42] (fun i wr => ∃ k : Nat, k ≤ 8 ∧ i = .int .i64 k ∧ HashIn wr hb st (setLen rx (8 * (l.length : Int)) k) used l.length ∧ w2.grownBy wr (some hb)) (fun i _ => 8 - (intOf i).toNat)
  case atStart => exact ⟨0, by omega, rfl, hh2, World.grownBy.refl _ _⟩
  case round =>
    obtain ⟨k, hk8, rfl, hhr, hgr⟩ := hrel
    by_cases hlt8 : k < 8
    · have cb := hhr.byte (63 - k) (by omega)
      have fb := hhr.free (8 + (63 - k))
      go_wp2_with fail
      go_region
      go_wp2
      go_roundw
      case rel =>
        exact ⟨k + 1, by omega, by go_num, (hhr.stored (8 + (63 - k)) (.int .u8 (lb (8 * (l.length : Int)) k)) (by rw [List.length_set]; exact hhr.rl) (hcells_byte _ _ _ _ _ _ hhr.rl (by omega))).drew, grown_drew (grown_set hgr _ _)⟩
      case measure => simp [intOf]; omega
    · obtain rfl : k = 8 := by omega
      have hber := hbe2.trans (below_of_grown hgr (Nat.le_of_lt hh2.lt))
      have hresr := hres2.grown hgr (by omega)
      go_wp2_with fail
      refine (addBlock_grown hb hb 8 64 (setLen rx (8 * (l.length : Int)) 8) st _ used _ wr (by omega) (fun j hj => hhr.byte j hj) hhr.lt (setLen_byt _ _ _ HBYT.out).at_ (HK.out.below hber (by omega)) (by omega) hhr).mono ?_
      rintro e w4 ⟨rfl, hh4, hg4⟩
      rw [HONE.out] at hh4
      have hres4 := hresr.grown hg4 (by omega)
      have hbe4 := hber.trans (below_of_grown hg4 (Nat.le_of_lt hhr.lt))
      clear hresr hber hres2 hbe2 hh2 hgr hg4 hhr
      go_wp2_with fail
      refine (digest_any hb _ _ _ _ w4 hh4).mono ?_
      rintro e w5 ⟨rfl, hb5⟩
      have hres5 := hres4.below hb5 hres4.lt
      have hbe5 := hbe4.trans (hb5.mono (Nat.le_of_lt hh4.lt))
      clear hres4 hbe4 hb5 hh4
      have H2 := Lib.hid hres5; clear hres5
      have hi1 : (Tryd.prog.info? 23).map (·.size) = some ((dbytes (sha l).list).map (Value.int .u8)).toArray.size := by
        rw [List.size_toArray, List.length_map, dbytes_length, St.list_length]; exact Tryd.info25d
      have HI := Lib.hid hi1; clear hi1
      have hone := oneCell_map .u8 (dbytes (sha l).list)
      have hsz : ((List.replicate 32 0).map (Value.int .u8)).toArray.size = ((dbytes (sha l).list).map (Value.int .u8)).toArray.size := by simp [dbytes_length, St.list_length]
      have HO := Lib.hid hone; have HZ := Lib.hid hsz; clear hone hsz
      generalize hL : dbytes (sha l).list = L at *
      have HL := Lib.hid hL; clear hL
      go_wp2_with (refine wpList_store_row rfl 23 _ _ rfl w.heap.size _ rfl rfl 23 _ H2.out HI.out HZ.out HO.out ?_)
      exact bodyPost_ret (results_cell_row (P := Tryd.prog) rfl _ _ w.heap.size 23 _ (0, 0) _ rfl (H2.out.setRow _) Tryd.underlying23 rfl HI.out) rfl ⟨by rw [HL.out], below_setRow hbe5 (by omega) _⟩
set_option maxRecDepth 100000 in
set_option maxHeartbeats 1000000 in
theorem finish_two (hb : Nat) (l : List Int) (st : St) (rest : List Int) (used : Nat) (w : World) (hh : HashIn w hb st rest used l.length) (ha : Has l st rest used l.length)
    (hk : KayIn w) (hk0 : 2 < hb) (hbd : l.length ≤ 1099511627776) (hu : 56 ≤ used) (hu2 : used < 64) :
    Calls Tryd.prog 81 #[.pointer (some ⟨hb, 0, none⟩)] w (FinRes hb w l) := by
  have HK := Lib.hid hk; clear hk
  have hlt := hh.lt
  have hrl := hh.rl
  have hone := sha_two ha hu
  have HONE := Lib.hid hone; clear hone
  have HA := Lib.hid ha; clear ha
  have hres : RowIn (w.alloc (.cells (Array.replicate 32 (Value.int .u8 0)) 23)) w.heap.size 23 .u8 (List.replicate 32 0) := heap_alloc_new _ _
  have hh0 := hh.alloc (.cells (Array.replicate 32 (Value.int .u8 0)) 23)
  have hbe0 : Below w.heap.size w (w.alloc (.cells (Array.replicate 32 (Value.int .u8 0)) 23)) := (Below.refl _ _).alloc (Nat.le_refl _) _
  have HRES := Lib.hid hres; have HH0 := Lib.hid hh0; have HBE0 := Lib.hid hbe0; clear hres hh0 hbe0
  go_enter Tryd.func81, Tryd.ntmps81
  go_wp2_with fail
  generalize hw0 : World.alloc w _ = w0
  have hres : RowIn w0 w.heap.size 23 .u8 (List.replicate 32 0) := by rw [← hw0]; exact HRES.out
  have hh0 : HashIn w0 hb st rest used l.length := by rw [← hw0]; exact HH0.out
  have hbe0 : Below w.heap.size w w0 := by rw [← hw0]; exact HBE0.out
  clear hw0 HRES HH0 HBE0 hh
  have c72 := hh0.usedAt
  have cu := hh0.byte used (by omega)
  have fu := hh0.free (8 + used)
  go_region
  go_wp2_with fail
  generalize hw1 : World.drew _ = w1
  have hh1 : HashIn w1 hb st (rest.set used 128) used l.length := by
    rw [← hw1]; exact (hh0.stored (8 + used) (.int .u8 128) (by rw [List.length_set]; exact hrl) (hcells_byte _ _ _ _ _ _ hrl (by omega))).drew
  have hg1 : w0.grownBy w1 (some hb) := by rw [← hw1]; exact grown_drew (grown_set (World.grownBy.refl _ _) _ _)
  have hres1 := hres.grown hg1 (by omega)
  have hbe1 : Below hb w w1 := (hbe0.mono (by omega)).trans (below_of_grown hg1 (Nat.le_of_lt hh0.lt))
  clear hw1 c72 cu fu hg1 hh0 hres hbe0
  obtain ⟨dp, hsl, hdp⟩ := slice_behind hb used (by omega)
  have HDP := Lib.hid hdp; clear hdp
  have HB := Lib.hid hh1.blk
  have hfit : 8 + (used + 1) + (63 - used) ≤ (hcells st (rest.set used 128) used l.length).length := by rw [hcells_length _ _ _ _ hh1.rl]; omega
  have HF := Lib.hid hfit; clear hfit
  have c72 := hh1.usedAt
  have hwr : IntKind.i64.wrap ((used : Int) + 1) = (used : Int) + 1 := by simp [IntKind.wrap, IntKind.bits, IntKind.signed]; omega
  go_region_law (refine step_clear rfl (.tmp 21) 34 rfl 5 Tryd.underlying34 Tryd.zero5b _ _ _ rfl hb (8 + (used + 1)) _ 100 HB.out HDP.out HF.out w1 (grown_drew (World.grownBy.refl _ _)) ?_; intro w2 hg2 hb2)
  have hh2 := hh1.cleared (by omega) hg2
  rw [mark_zero _ _ hrl (by omega)] at hh2
  have hres2 := hres1.grown hb2 (by omega)
  have hbe2 := hbe1.trans (below_of_grown hb2 (Nat.le_of_lt hh1.lt))
  have hby : Byt (rest.take used ++ (128 :: List.replicate (63 - used) 0)) := (HA.out.hbyt.take _).append (fun x hx => by
    rcases List.mem_cons.1 hx with h | h
    · omega
    · rw [List.eq_of_mem_replicate h]; omega)
  have HBYT := Lib.hid hby; clear hby
  clear hsl HDP HF HB hwr hg2 c72 hb2 hbe1 hres1 hh1
  have c72 := hh2.usedAt
  have c73 := hh2.lenAt
  obtain ⟨rx, hrx⟩ : ∃ rx, rx = rest.take used ++ (128 :: List.replicate (63 - used) 0) := ⟨_, rfl⟩
  rw [← hrx] at hh2 HBYT HONE
  clear hrx
  have hsa := slice_all hb
  go_wp2_with fail
  clear c72 c73
  refine (addBlock_grown hb hb 8 64 rx st rx used _ w2 (by omega) (fun j hj => hh2.byte j hj) hh2.lt HBYT.out.at_ (HK.out.below hbe2 (by omega)) (by omega) hh2).mono ?_
  rintro e w3 ⟨rfl, hh3, hg3⟩
  have hres3 := hres2.grown hg3 (by omega)
  have hbe3 := hbe2.trans (below_of_grown hg3 (Nat.le_of_lt hh2.lt))
  clear hres2 hbe2 hh2 hg3 HBYT
  have HB := Lib.hid hh3.blk
  have hfit : 8 + 0 + 64 ≤ (hcells (comp st rx) rx used l.length).length := by rw [hcells_length _ _ _ _ hh3.rl]; omega
  have HF := Lib.hid hfit; clear hfit
  go_wp2_with (refine wpList_clear rfl (.tmp 36) 34 rfl 5 Tryd.underlying34 Tryd.zero5b _ _ _ rfl hb (8 + 0) _ 100 HB.out (fun _ => rfl) HF.out w3 (World.grownBy.refl _ _) ?_; intro w2 hg2 hb2; have hh2 := hh3.cleared (by omega) hg2; have c73 := hh2.lenAt; clear hg2)
  have e0 : splice rx 0 (List.replicate 64 0) = List.replicate 64 0 := by
    unfold splice; rw [List.take_zero, List.nil_append, List.drop_eq_nil_of_le (by rw [List.length_replicate, hh3.rl]; omega), List.append_nil]
  rw [e0] at hh2
  have hres2 := hres3.grown hb2 (by omega)
  have hbe2 := hbe3.trans (below_of_grown hb2 (Nat.le_of_lt hh3.lt))
  clear hres3 hbe3 hh3 HB HF hb2 c73 e0
  go_loopw [42] (fun i wr => ∃ k : Nat, k ≤ 8 ∧ i = .int .i64 k ∧ HashIn wr hb (comp st rx) (setLen (List.replicate 64 0) (8 * (l.length : Int)) k) used l.length ∧ w2.grownBy wr (some hb)) (fun i _ => 8 - (intOf i).toNat)
  case atStart => exact ⟨0, by omega, rfl, hh2, World.grownBy.refl _ _⟩
  case round =>
    obtain ⟨k, hk8, rfl, hhr, hgr⟩ := hrel
    by_cases hlt8 : k < 8
    · have cb := hhr.byte (63 - k) (by omega)
      have fb := hhr.free (8 + (63 - k))
      go_wp2_with fail
      go_region
      go_wp2
      go_roundw
      case rel =>
        exact ⟨k + 1, by omega, by go_num, (hhr.stored (8 + (63 - k)) (.int .u8 (lb (8 * (l.length : Int)) k)) (by rw [List.length_set]; exact hhr.rl) (hcells_byte _ _ _ _ _ _ hhr.rl (by omega))).drew, grown_drew (grown_set hgr _ _)⟩
      case measure => simp [intOf]; omega
    · obtain rfl : k = 8 := by omega
      have hber := hbe2.trans (below_of_grown hgr (Nat.le_of_lt hh2.lt))
      have hresr := hres2.grown hgr (by omega)
      go_wp2_with fail
      refine (addBlock_grown hb hb 8 64 (setLen (List.replicate 64 0) (8 * (l.length : Int)) 8) (comp st rx) _ used _ wr (by omega) (fun j hj => hhr.byte j hj) hhr.lt (setLen_byt _ _ _ (Byt.zeros 64)).at_ (HK.out.below hber (by omega)) (by omega) hhr).mono ?_
      rintro e w4 ⟨rfl, hh4, hg4⟩
      rw [HONE.out] at hh4
      have hres4 := hresr.grown hg4 (by omega)
      have hbe4 := hber.trans (below_of_grown hg4 (Nat.le_of_lt hhr.lt))
      clear hresr hber hres2 hbe2 hh2 hgr hg4 hhr
      go_wp2_with fail
      refine (digest_any hb _ _ _ _ w4 hh4).mono ?_
      rintro e w5 ⟨rfl, hb5⟩
      have hres5 := hres4.below hb5 hres4.lt
      have hbe5 := hbe4.trans (hb5.mono (Nat.le_of_lt hh4.lt))
      clear hres4 hbe4 hb5 hh4
      have H2 := Lib.hid hres5; clear hres5
      have hi1 : (Tryd.prog.info? 23).map (·.size) = some ((dbytes (sha l).list).map (Value.int .u8)).toArray.size := by
        rw [List.size_toArray, List.length_map, dbytes_length, St.list_length]; exact Tryd.info25d
      have HI := Lib.hid hi1; clear hi1
      have hone := oneCell_map .u8 (dbytes (sha l).list)
      have hsz : ((List.replicate 32 0).map (Value.int .u8)).toArray.size = ((dbytes (sha l).list).map (Value.int .u8)).toArray.size := by simp [dbytes_length, St.list_length]
      have HO := Lib.hid hone; have HZ := Lib.hid hsz; clear hone hsz
      generalize hL : dbytes (sha l).list = L at *
      have HL := Lib.hid hL; clear hL
      go_wp2_with (refine wpList_store_row rfl 23 _ _ rfl w.heap.size _ rfl rfl 23 _ H2.out HI.out HZ.out HO.out ?_)
      exact bodyPost_ret (results_cell_row (P := Tryd.prog) rfl _ _ w.heap.size 23 _ (0, 0) _ rfl (H2.out.setRow _) Tryd.underlying23 rfl HI.out) rfl ⟨by rw [HL.out], below_setRow hbe5 (by omega) _⟩

theorem finish_any (hb : Nat) (l : List Int) (st : St) (rest : List Int) (used : Nat) (len : Int) (w : World) (hh : HashIn w hb st rest used len) (ha : Has l st rest used len)
    (hk : KayIn w) (hk0 : 2 < hb) (hbd : l.length ≤ 1099511627776) :
    Calls Tryd.prog 81 #[.pointer (some ⟨hb, 0, none⟩)] w (FinRes hb w l) := by
  obtain rfl := ha.hlen
  have hu := ha.hused
  by_cases h : used < 56
  · exact finish_one hb l st rest used w hh ha hk hk0 hbd h
  · exact finish_two hb l st rest used w hh ha hk hk0 hbd (by omega) (by omega)
end Go.Proofs.YtmafefdchglpbaaDoor
