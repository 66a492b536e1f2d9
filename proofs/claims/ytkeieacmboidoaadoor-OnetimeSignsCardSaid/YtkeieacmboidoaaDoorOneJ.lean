/-
  One-time signatures: the walk of the reference's Half (conditions: the parts read as lists of bytes, at most 2^40 in all).
-/
import Derived.Test.YtkeieacmboidoaaDoorOneI
import Derived.Test.YtkeieacmboidoaaDoorGh
namespace Go.Proofs.YtkeieacmboidoaaDoor
open Go.RowKit Go.Proofs.YtkeieacmboidoaaDoor.One

theorem fill16_step (L : List Int) (hL : L.length = 32) (k : Nat) (h : k < 16) : (fillTo 16 (L.take k)).set k (L.getD k 0) = fillTo 16 (L.take (k + 1)) := by
  have e : L.take (k + 1) = L.take k ++ [L.getD k 0] := by
    rw [List.take_succ_eq_append_getElem (by omega), List.getD_eq_getElem?_getD, List.getElem?_eq_getElem (by omega)]; rfl
  have hl : (L.take k).length = k := by rw [List.length_take]; omega
  have h2 := fillTo_set 16 (L.take k) (L.getD k 0) (by rw [hl]; exact h)
  rw [hl] at h2
  rw [e, ← h2]
theorem cat_bytO {ps : List Part} (h : ∀ q ∈ ps, Byt q.b) : Byt (cat ps) := fun x hx => by
  unfold cat at hx
  obtain ⟨l, hl, hxl⟩ := List.mem_flatten.1 hx
  obtain ⟨q, hq, rfl⟩ := List.mem_map.1 hl
  exact h q hq x hxl
set_option maxRecDepth 100000 in
set_option maxHeartbeats 1000000 in
theorem rhalf_any (pa : Option Addr) (np ncap : Nat) (ps : List Part) (w : World) (hp : PartsIn w w.heap.size pa np ps) (hnil : ∀ q ∈ ps, q.sp = none → q.cap = 0) (hbd : (cat ps).length ≤ 1099511627776) (hnp : np ≤ 1099511627776) :
    Calls Tryd.prog 24 #[.slice pa np ncap] w fun e w' => e = .returned (.agg (hvA (hfB (cat ps)))) ∧ Below w.heap.size w w' := by
  have HP := Lib.hid hp; have HNIL := Lib.hid hnil; clear hp hnil
  have HN := Lib.hid (heap_alloc_new w (.cells (Array.replicate 16 (Value.int .u8 0)) 23))
  have HB := Lib.hid (below_alloc w (.cells (Array.replicate 16 (Value.int .u8 0)) 23))
  have HS := Lib.hid (alloc_size w (.cells (Array.replicate 16 (Value.int .u8 0)) 23))
  go_enter Tryd.func24, Tryd.ntmps24
  go_wp2_with fail
  generalize hw0 : World.alloc w _ = w0
  have HZ0 : Hid (w0.heap[w.heap.size]? = some (.cells (Array.replicate 16 (Value.int .u8 0)) 23 (0, 0))) := by rw [← hw0]; exact HN.out
  have HB0 : Hid (Below w.heap.size w w0) := by rw [← hw0]; exact HB.out
  have HS0 : Hid (w0.heap.size = w.heap.size + 1) := by rw [← hw0]; exact HS.out
  clear hw0 HN HB HS
  generalize hb : w.heap.size = b at *
  have HBZ := Lib.hid hb; clear hb
  have hs0 : b + 1 ≤ w0.heap.size := Nat.le_of_eq HS0.out.symm
  go_loopw [3, 4] (fun v i wr => ∃ k : Nat, k ≤ np ∧ i = .int .i64 k ∧ Hid (wr.ownsRow (b + 1) 5 1 v (cat (ps.take k)).length ((cat (ps.take k)).map (Value.int .u8))) ∧ Below (b + 1) w0 wr) (fun _ i _ => np - (intOf i).toNat)
  case atStart => exact ⟨0, by omega, rfl, World.ownsRow_nil _ _ _ _, Below.refl _ _⟩
  case round =>
    rename_i v _
    obtain ⟨k, hkn, rfl, hown, hber⟩ := hrel
    by_cases hlt : k < np
    · have hk2 : k < ps.length := by have := HP.out.len; omega
      have hpl := HP.out.len
      obtain ⟨pb, po, rfl, hpb, hcell⟩ := HP.out.cells (by omega)
      have hbelw : Below b w wr := HB0.out.trans (hber.mono (by omega))
      have ck : wr.cell? ⟨pb, po + k, none⟩ = some (.slice ps[k].sp ps[k].n ps[k].cap) := (hbelw.cell (p := ⟨pb, po + k, none⟩) hpb).trans (hcell k hk2)
      have hsr : Src wr (b + 1) ps[k].sp ps[k].n ps[k].cap ps[k].b := ((HP.out.srcs _ (List.getElem_mem hk2)).below hbelw (Nat.le_refl _)).more (by omega)
      have HCS := Lib.hid (cat_take_succ ps k hk2)
      have HLE := Lib.hid (cat_take_le ps (k + 1))
      have HN := Lib.hid (HNIL.out _ (List.getElem_mem hk2))
      have hsz := hber.size
      have hszb : b + 1 ≤ wr.heap.size := by omega
      clear hcell hbelw hpl
      generalize ps[k].sp = sp at *
      generalize ps[k].n = n at *
      generalize ps[k].cap = cap at *
      generalize ps[k].b = bb at *
      obtain rfl := hsr.len
      have HSR := Lib.hid hsr; clear hsr
      have hd : decide ((k : Int) < (np : Int)) = true := by simp; omega
      have p1 : (0 : Int) ≤ (k : Int) := by omega
      have p2 : (k : Int) < (np : Int) := by omega
      have hadd : (cat (ps.take k)).length + bb.length ≤ 1099511627776 := by
        have h1 := HLE.out; rw [HCS.out, List.length_append] at h1; omega
      go_wp2_with (refine wpList_append_src rfl (.tmp 14) (.tmp 18) 50 5 rfl Tryd.underlying50 Tryd.info5a (b + 1) _ (cat (ps.take k)) rfl hown.out _ _ (b + 1) bb rfl HSR.out HN.out hadd hszb ?_; intro v' w1 hown' hg' _)
      go_roundw
      case rel =>
        exact ⟨k + 1, by omega, by go_num, by rw [HCS.out]; exact hown', hber.grown hg' hszb (own_baseG hown.out)⟩
      case measure => simp [intOf]; omega
    · obtain rfl : k = np := by omega
      have hall : cat (ps.take k) = cat ps := by rw [List.take_of_length_le (by rw [HP.out.len]; exact Nat.le_refl _)]
      rw [hall] at hown
      obtain ⟨sp, cap, rfl, hsrc, hspn⟩ := src_of_own hown.out (cat_bytO fun q hq => (HP.out.srcs q hq).byt)
      have HZr : Hid (wr.heap[b]? = some (.cells (Array.replicate 16 (Value.int .u8 0)) 23 (0, 0))) := (hber.block b (by omega)).trans HZ0.out
      have HBW : Hid (Below b w wr) := HB0.out.trans (hber.mono (by omega))
      have hszb : b + 1 ≤ wr.heap.size := by have := hber.size; omega
      clear hown hall hber HZ0 HB0 HS0 hs0
      have hd : decide ((k : Int) < (k : Int)) = false := by simp
      go_wp2_with fail
      refine (refSum_any sp (cat ps).length cap (cat ps) wr hsrc hspn hbd).mono ?_
      rintro e w2 ⟨rfl, hb2⟩
      have HB2 : Hid (Below wr.heap.size wr w2) := hb2
      clear hb2 hsrc hspn
      have HD0 := Lib.hid (heap_alloc_new w2 (.cells (Array.replicate 32 (Value.int .u8 0)) 37))
      have HA1 := Lib.hid ((heap_alloc_old (w2.alloc (.cells (dg (cat ps)) 37)) (.cells (Array.replicate 16 (Value.int .u8 0)) 23) (show w2.heap.size < _ by simp)).trans (heap_alloc_new w2 (.cells (dg (cat ps)) 37)))
      have HA2 := Lib.hid (heap_alloc_new (w2.alloc (.cells (dg (cat ps)) 37)) (.cells (Array.replicate 16 (Value.int .u8 0)) 23))
      have HAB := Lib.hid (((Below.refl w2.heap.size w2).alloc (Nat.le_refl _) (.cells (dg (cat ps)) 37)).alloc (by simp) (.cells (Array.replicate 16 (Value.int .u8 0)) 23))
      have HAS := Lib.hid (show ((w2.alloc (.cells (dg (cat ps)) 37)).alloc (.cells (Array.replicate 16 (Value.int .u8 0)) 23)).heap.size = w2.heap.size + 2 by simp)
      go_wp2_with (refine wpList_store_row rfl 37 _ _ rfl w2.heap.size _ rfl rfl 37 _ HD0.out (dg_info _) (by rw [dg_size]; rfl) (dg_one _) ?_; rw [setRow_new])
      generalize hw3 : World.alloc (World.alloc w2 _) _ = w3
      have HR3 : Hid (RowIn w3 w2.heap.size 37 .u8 (dbytes (sha (cat ps)).list)) := by rw [← hw3]; exact HA1.out
      have HH3 : Hid (RowIn w3 (w2.heap.size + 1) 23 .u8 (List.replicate 16 0)) := by rw [← hw3]; have h := HA2.out; rw [World.size_alloc] at h; exact h
      have HB3 : Hid (Below w2.heap.size w2 w3) := by rw [← hw3]; exact HAB.out
      have hs3 : w2.heap.size + 2 ≤ w3.heap.size := by rw [← hw3]; exact Nat.le_of_eq HAS.out.symm
      clear hw3 HD0 HA1 HA2 HAB HAS
      have hbw2 : b + 1 ≤ w2.heap.size := by have := HB2.out.size; omega
      have HZ3 : Hid (w3.heap[b]? = some (.cells (Array.replicate 16 (Value.int .u8 0)) 23 (0, 0))) := (HB3.out.block b (by omega)).trans ((HB2.out.block b (by omega)).trans HZr.out)
      have HBW3 : Hid (Below b w w3) := HBW.out.trans ((HB2.out.mono (by omega)).trans (HB3.out.mono (by omega)))
      clear HB2 HB3 HZr HBW hszb
      generalize hg : w2.heap.size = g at *
      have HL : Hid ((dbytes (sha (cat ps)).list).length = 32) := by show _ = _; simp [dbytes_length, St.list_length]
      have HRES : Hid ((dbytes (sha (cat ps)).list).take 16 = hfB (cat ps)) := rfl
      generalize dbytes (sha (cat ps)).list = D at *
      clear hg
      go_loopw [7] (fun i wr => ∃ k : Nat, k ≤ 16 ∧ i = .int .i64 k ∧ Hid (RowIn wr (g + 1) 23 .u8 (fillTo 16 (D.take k))) ∧ Hid (Below (g + 1) w3 wr)) (fun i _ => 16 - (intOf i).toNat)
      case atStart => exact ⟨0, by omega, rfl, HH3.out, Below.refl _ _⟩
      case round =>
        clear HH3
        obtain ⟨k, hk, rfl, HH, HBE⟩ := hrel
        by_cases hlt : k < 16
        · have c1 : wr.cell? ⟨g, k, none⟩ = some (.int .u8 (D.getD k 0)) := (HR3.out.below HBE.out (by omega)).get k (by have := HL.out; omega)
          have f1 : wr.frozen? ⟨g + 1, k, none⟩ = false := HH.out.free k
          have hfl : (fillTo 16 (D.take k)).length = 16 := fillTo_length _ _ (by rw [List.length_take]; omega)
          have c2 := HH.out.get k (by rw [hfl]; exact hlt)
          have HFS := Lib.hid (fill16_step D HL.out k hlt)
          generalize (fillTo 16 (D.take k)).getD k 0 = old at *
          clear hfl
          generalize D.getD k 0 = x at *
          have hd1 : decide ((k : Int) < 16) = true := by simp; omega
          have p1 : (0 : Int) ≤ (k : Int) := by omega
          have p2 : (k : Int) < 16 := by omega
          have p3 : (k : Int) < 32 := by omega
          go_wp2_with fail
          go_roundw
          case rel => exact ⟨k + 1, by omega, by go_num, by rw [← HFS.out]; exact HH.out.put k x, HBE.out.setCell (by show g + 1 ≤ g + 1; omega) _⟩
          case measure => simp [intOf]; omega
        · obtain rfl : k = 16 := by omega
          have hfull : fillTo 16 (D.take 16) = hfB (cat ps) := by rw [HRES.out]; exact fillTo_full _ _ (hfB_H16 _).1
          rw [hfull] at HH
          clear hfull
          have HZ4 : Hid (wr.heap[b]? = some (.cells (Array.replicate 16 (Value.int .u8 0)) 23 (0, 0))) := (HBE.out.block b (by omega)).trans HZ3.out
          have HG4 : Hid (wr.heap[g + 1]? = some (.cells (hvA (hfB (cat ps))) 23 (0, 0))) := HH.out
          go_wp2_with (first
            | (refine wpList_load_row rfl 23 _ rfl (g + 1) rfl 23 _ (0, 0) _ HG4.out Tryd.underlying23 rfl (info_h (hfB_H16 _)) ?_)
            | (refine wpList_store_row rfl 23 _ _ rfl b _ rfl rfl 23 _ HZ4.out (info_h (hfB_H16 _)) (size_h (hfB_H16 _)) (one_h _) ?_))
          exact bodyPost_ret (results_cell_row (P := Tryd.prog) rfl _ _ b 23 _ (0, 0) _ rfl (setRow_heap _ _ _ _ _ _ HZ4.out) Tryd.underlying23 rfl (info_h (hfB_H16 _))) rfl ⟨rfl, by rw [HBZ.out]; exact below_setRow (HBW3.out.trans (HBE.out.mono (by omega))) (Nat.le_refl _) _⟩
end Go.Proofs.YtkeieacmboidoaaDoor
