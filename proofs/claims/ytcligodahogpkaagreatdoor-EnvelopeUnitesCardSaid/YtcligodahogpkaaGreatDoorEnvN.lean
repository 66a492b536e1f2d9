/-
  Envelopes: the walks of the reference's find and insert.
-/
import Derived.Test.YtcligodahogpkaaGreatDoorZip
import Derived.Test.YtcligodahogpkaaGreatDoorEnvL
import Derived.Test.YtcligodahogpkaaGreatDoorH4
set_option maxRecDepth 100000
set_option maxHeartbeats 8000000
namespace Go.Proofs.YtcligodahogpkaaGreatDoor
open Go.RowKit Go.Proofs.YtcligodahogpkaaGreatDoor.One
def OK (L : List Pg) (y : List Int) : Bool := L.any fun z => decide (idP z = y)
theorem xY {L : List Pg} {y : List Int} {z : Pg} (hz : z ∈ L) (e : idP z = y) : OK L y = true := List.any_eq_true.2 ⟨z, hz, by simp [e]⟩
theorem LK {L : List Pg} {y : List Int} (h : ∀ z ∈ L, idP z ≠ y) : OK L y = false := List.any_eq_false.2 fun z hz => by simp [h z hz]
theorem BT (sp : Option Addr) (n cap : Nat) (l : List Sg) (y : List Int) (w : World) (hl : SgsIn w w.heap.size sp n cap l) (hy : D32 y) (hn : n ≤ 1000) :
 Calls Tryz.prog 29 #[.slice sp n cap, .agg (dv y)] w fun e w' => ∃ i : Int, e = .returned (.int .i64 i) ∧ decide (0 ≤ i) = OK (l.map pg) y ∧ Below w.heap.size w w' := by
 have HL := zh hl; have HY := zh hy
 have HB := zh ((Below.refl w.heap.size w).alloc (Nat.le_refl _) (.cells (dv y) 43))
 have hr : (w.alloc (.cells (dv y) 43)).rangeAt w.heap.size 0 (y.map (Value.int .u8)) := dP (pre := []) (post := []) (heap_alloc_new w _) (by simp) rfl
 have HID := zh (jP hy)
 clear hl hy
 go_enter Tryz.func29, Tryz.ntmps29
 go_wp2_with fail
 generalize hw0 : World.alloc w _ = w0 at HB hr
 have HYR := zh hr
 obtain ⟨B, hBe⟩ : ∃ B, B = w0.heap.size := ⟨_, rfl⟩
 have HLT : Hid (w.heap.size < B) := by show _ < _; rw [hBe, ← hw0]; simp
 clear hr hw0
 go_loopw [5] (fun i wr => ∃ k : Nat, k ≤ n ∧ i = .int .i64 k ∧ Hid (∀ z ∈ (l.map pg).take k, idP z ≠ y) ∧ Hid (Below B w0 wr)) (fun i _ => n - (intOf i).toNat)
 case atStart => exact ⟨0, Nat.zero_le _, rfl, fun z hz => (by simp at hz), Below.refl _ _⟩
 case round =>
  obtain ⟨k, hk, rfl, HT, HBR⟩ := hrel
  have HBW := zh (HB.out.trans (HBR.out.mono (Nat.le_of_lt HLT.out)))
  have hszr : B ≤ wr.heap.size := by have := HBR.out.size; omega
  by_cases hlt : k < n
  ·have hd : decide ((k : Int) < (n : Int)) = true := by simp; omega
   obtain ⟨bq, off, rfl, hbB, hcap, hr1⟩ := HL.out.cells (by omega)
   have hkl : k < l.length := by rw [HL.out.len]; exact hlt
   obtain ⟨x, hx⟩ : ∃ x, l[k]? = some x := ⟨l[k], List.getElem?_eq_getElem hkl⟩
   have HOX := zh (HL.out.ok x (List.mem_of_getElem? hx))
   have HR := zh (aA (hr1 k x hx) HBW.out hbB)
   have HYR2 : Hid (wr.rangeAt w.heap.size 0 (y.map (Value.int .u8))) := aA HYR.out HBR.out HLT.out
   have HIP := zh (iG HOX.out)
   have HXX : Hid ((l.map pg)[k]? = some (pg x)) := by show _ = _; rw [List.getElem?_map, hx]; rfl
   have he : ∀ w', (binOp .eql 43 (.agg (dv (idP (pg x)))) (.agg (y.map (Value.int .u8)).toArray)).run Tryz.prog w' = .ok (.bool (decide (idP (pg x) = y))) w' := eqlD (idP (pg x)) y (iQ (pg x)).1 HY.out.1
   obtain ⟨c, hc⟩ : ∃ c, decide (idP (pg x) = y) = c := ⟨_, rfl⟩
   rw [hc] at he
   have HC := zh hc
   have HCI : Hid (∀ w', Calls Tryz.prog 30 #[.agg (sgP x).toArray] w' fun e w'' => e = .returned (.agg (dv (idP (pg x)))) ∧ Below w'.heap.size w' w'') := fun w' => mG x.h x.r w' HOX.out
   generalize hu : idP (pg x) = u at *
   have HU := zh hu
   clear hu
   have p1 : (0 : Int) ≤ (k : Int) := by omega
   have p2 : (k : Int) < (n : Int) := by omega
   have q1 : IntKind.i64.wrap (k : Int) = (k : Int) := IntWalk.i64_in _ (by omega)
   have HBB : Hid (bq < B) := Nat.lt_trans hbB HLT.out
   have uU : Hid (Below B wr wr) := Below.refl _ _
   have hBk : B ≤ wr.heap.size := hszr
   clear hx hr1 hc hkl hbB HYR
   have HYR := HYR2
   clear HYR2
   go_wp2_with fail
   refine wp_region_held_drew (S := fun w' => Below B wr w') (by kernel_rfl) uU.out.drew (fun hHeld => ?_)
   refine zv 0 rfl ?_
   refine zv 1 rfl ?_
   refine zv 2 rfl ?_
   refine zv 3 rfl ?_
   refine' zk 4 rfl (v := _) (yieldsIf_load_mid (by rfl) _ _ rfl _ _ rfl _ _ ?hS4n5 Tryz.underlying56 rfl HIP.out) ?rest4n5
   case hS4n5 =>
    intro w' hSw
    exact qJ (aA HR.out hSw HBB.out)
   try simp only [Act.put, zA, zB, zC, zD, zE, zF]
   refine' zk 6 rfl (v := _) (yieldsIf_load_mid (by rfl) _ _ rfl _ _ rfl _ _ ?hS6n6 Tryz.underlying43 rfl HID.out) ?rest6n6
   case hS6n6 =>
    intro w' hSw
    exact aA HYR.out hSw HLT.out
   try simp only [Act.put, zA, zB, zC, zD, zE, zF]
   refine zr 5 rfl (fun K hK => ?_)
   go_simp
   with_reducible refine (HCI.out _).mono ?_
   rintro e v1 ⟨rfl, hb⟩
   have gB : Hid (Below B wr v1) := (uU.out.drew).trans (hb.mono (by have := ((uU.out.drew)).size; have := hBk; omega))
   clear hb
   go_wp2_with fail
   refine hK.out _ _ gB.out fun _ => ?_; clear hK K
   try simp only [Act.put, zA, zB, zC, zD, zE, zF]
   refine zv 7 rfl ?_
   refine zd ?_ _
   clear hHeld he
   have QL : Hid (Below B w0 v1) := HBR.out.trans gB.out
   cases c
   ·go_wp2_with fail
    go_roundw
    case rel =>
     refine ⟨k + 1, by omega, by go_num, ?_, QL⟩
     rw [List.take_add_one, HXX.out]
     intro z hz
     rcases List.mem_append.1 hz with hz | hz
     ·exact HT.out z hz
     ·rw [List.mem_singleton.1 hz, HU.out]; exact of_decide_eq_false HC.out
    case measure => simp [intOf]; omega
   ·go_wp2_with fail
    go_ret
    exact ⟨(k : Int), rfl, by rw [decide_eq_true p1, xY (List.mem_of_getElem? HXX.out) (HU.out.trans (of_decide_eq_true HC.out))], HB.out.trans (QL.out.mono (Nat.le_of_lt HLT.out))⟩
  ·obtain rfl : k = n := by omega
   have hd : decide ((k : Int) < (k : Int)) = false := by simp
   have HTK : Hid ((l.map pg).take k = l.map pg) := by show _ = _; rw [List.take_of_length_le]; rw [List.length_map, HL.out.len]; omega
   rw [HTK.out] at HT
   go_wp2_with fail
   go_ret
   exact ⟨-1, rfl, by rw [LK HT.out]; rfl, HBW.out⟩
end Go.Proofs.YtcligodahogpkaaGreatDoor
