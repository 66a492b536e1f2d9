/-
  One-time signatures: the walk of the reference's Same at equal lists.
-/
import Derived.Test.YtcligodahogpkaaGreatDoorZip
import Derived.Test.YtcligodahogpkaaGreatDoorKeyRd
set_option maxRecDepth 100000
set_option maxHeartbeats 8000000
namespace Go.Proofs.YtcligodahogpkaaGreatDoor
open Go.RowKit Go.Proofs.YtcligodahogpkaaGreatDoor.One
theorem sM (sp1 sp2 : Option Addr) (n c1 c2 : Nat) (l : List (List Int)) (w : World) (h1 : HvsIn w w.heap.size sp1 n c1 l) (h2 : HvsIn w w.heap.size sp2 n c2 l) (hn : n ≤ 1000) :
 Calls Tryz.prog 67 #[.slice sp1 n c1, .slice sp2 n c2] w fun e w' => e = .returned (.bool true) ∧ Below w.heap.size w w' := by
 have H1 := zh h1; have H2 := zh h2; clear h1 h2
 go_enter Tryz.func67, Tryz.ntmps67
 go_wp2_with fail
 go_loopw [5] (fun i wr => ∃ k : Nat, k ≤ n ∧ i = .int .i64 k ∧ Hid (Below w.heap.size w wr)) (fun i _ => n - (intOf i).toNat)
 case atStart => exact ⟨0, Nat.zero_le _, rfl, Below.refl _ _⟩
 case round =>
  obtain ⟨k, hk, rfl, HB⟩ := hrel
  by_cases hlt : k < n
  ·have hd : decide ((k : Int) < (n : Int)) = true := by simp; omega
   have p1 : (0 : Int) ≤ (k : Int) := by omega
   have p2 : (k : Int) < (n : Int) := by omega
   obtain ⟨b1, o1, rfl, hb1, _, hr1⟩ := H1.out.cells (by omega)
   obtain ⟨b2, o2, rfl, hb2, _, hr2⟩ := H2.out.cells (by omega)
   have HR1 := zh (hr1 k hlt); have HR2 := zh (hr2 k hlt)
   have HOK := zh (H1.out.at16 hlt)
   clear hr1 hr2
   generalize l.getD k [] = y at *
   have HIY := zh (LP HOK.out)
   go_wp2_with fail
   refine wp_region_held_drew (S := fun w' => Below w.heap.size w w') (by kernel_rfl) HB.out.drew (fun hHeld => ?_)
   refine zv 0 rfl ?_
   refine zv 1 rfl ?_
   refine zv 2 rfl ?_
   refine' zk 3 rfl (v := _) (yieldsIf_load_mid (by rfl) _ _ rfl _ _ rfl _ _ ?hS3n4 Tryz.underlying54 rfl HIY.out) ?rest3n4
   case hS3n4 =>
    intro w' hSw
    exact aA HR1.out hSw hb1
   try simp only [Act.put, zA, zB, zC, zD, zE, zF]
   refine zv 4 rfl ?_
   refine zv 5 rfl ?_
   refine zv 6 rfl ?_
   refine' zk 7 rfl (v := _) (yieldsIf_load_mid (by rfl) _ _ rfl _ _ rfl _ _ ?hS7n8 Tryz.underlying54 rfl HIY.out) ?rest7n8
   case hS7n8 =>
    intro w' hSw
    exact aA HR2.out hSw hb2
   try simp only [Act.put, zA, zB, zC, zD, zE, zF]
   refine zx 8 rfl (v := ?_) ?_ ?_; rotate_left
   ·intro w' hSw; refine GQ (x := .tmp 20) (y := .tmp 24) HOK.out ?_ ?_ ?_ <;> rfl
   refine zd ?_ _
   go_wp2_with fail
   have HB3 : Hid (Below w.heap.size w wr.drew) := HB.out.drew
   go_roundw
   case rel => exact ⟨k + 1, by omega, by go_num, HB3⟩
   case measure => simp [intOf]; omega
  ·obtain rfl : k = n := by omega
   have hd : decide ((k : Int) < (k : Int)) = false := by simp
   go_wp2_with fail
   go_ret
   exact ⟨rfl, HB.out⟩
end Go.Proofs.YtcligodahogpkaaGreatDoor
