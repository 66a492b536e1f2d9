/-
  Keys of many one-time keys: the walk of Shaped, way by way.
-/
import Derived.Test.YtcligodahogpkaaGreatDoorZip
import Derived.Test.YtcligodahogpkaaGreatDoorKeyI
set_option maxRecDepth 100000
set_option maxHeartbeats 8000000
namespace Go.Proofs.YtcligodahogpkaaGreatDoor
open Go.RowKit Go.Proofs.YtcligodahogpkaaGreatDoor.One
theorem BK (h : Int) (r : List Int) (l : Int) (sp1 : Option Addr) (n c1 : Nat) (sp2 : Option Addr) (m c2 : Nat) (w : World) (hr : H16 r) (hv : eK h = false) :
 Calls Tryz.prog 87 #[.agg (pkA h r), .agg (siA l (.slice sp1 n c1) (.slice sp2 m c2))] w fun e w' => e = .returned (.bool false) ∧ Below w.heap.size w w' := by
 have jG := zh hr
 have HV := zh hv; clear hv
 clear hr
 have HT := zh (PsBox.new w h r l (.slice sp1 n c1) (.slice sp2 m c2))
 go_enter Tryz.func87, Tryz.ntmps87
 go_wp2_with fail
 generalize hw0 : World.alloc (World.alloc w _) _ = w0
 have HT0 : Hid (PsBox w h r l (.slice sp1 n c1) (.slice sp2 m c2) w0) := by rw [← hw0]; exact HT.out
 clear hw0 HT
 have hs0 : w.heap.size + 2 ≤ w0.heap.size := Nat.le_of_eq HT0.out.z.symm
 have HVC := zh (fun w' => (show Calls Tryz.prog 124 #[.agg (pkL h r).toArray] w' fun e w'' => e = .returned (.bool (eK h)) ∧ Below w'.heap.size w' w'' from iK h r w'))
 refine wp_region_held_drew (S := fun w' => w'.heap[w.heap.size]? = some (.cells (pkA h r) 56 (0, 0)) ∧ w'.heap[w.heap.size + 1]? = some (.cells (siA l (.slice sp1 n c1) (.slice sp2 m c2)) 60 (0, 0))) (by kernel_rfl) ⟨HT0.out.k, HT0.out.s⟩ (fun hHeld => ?_)
 refine' zk 0 rfl (v := _) (yieldsIf_load_mid (by rfl) _ _ rfl _ _ rfl _ _ ?hS0n1 Tryz.underlying56 rfl (jA jG.out)) ?rest0n1
 case hS0n1 =>
  intro w' hSw
  exact aV hSw.1
 try simp only [Act.put, zA, zB, zC, zD, zE, zF]
 refine zr 1 rfl (fun K hK => ?_)
 go_simp
 with_reducible refine (HVC.out _).mono ?_
 rintro e w2 ⟨rfl, hb⟩
 rw [HV.out]
 have HB2 : Hid (Below w0.heap.size w0 w2) := (Below.refl _ _).drew.trans hb
 clear hb
 have HK2 : Hid (w2.heap[w.heap.size]? = some (.cells (pkA h r) 56 (0, 0))) := (HB2.out.block _ (by omega)).trans HT0.out.k
 have HS2 : Hid (w2.heap[w.heap.size + 1]? = some (.cells (siA l (.slice sp1 n c1) (.slice sp2 m c2)) 60 (0, 0))) := (HB2.out.block _ (by omega)).trans HT0.out.s
 go_wp2_with fail
 refine hK.out _ _ ⟨HK2.out, HS2.out⟩ fun _ => ?_; clear hK K
 try simp only [Act.put, zA, zB, zC, zD, zE, zF]
 refine zv 2 rfl ?_
 refine zk 3 rfl (v := undef) (.inr ⟨by rfl, rfl⟩) ?_; try simp only [Act.put, zA, zB, zC, zD, zE, zF]
 refine zk 4 rfl (v := undef) (.inr ⟨by rfl, rfl⟩) ?_; try simp only [Act.put, zA, zB, zC, zD, zE, zF]
 refine zk 5 rfl (v := undef) (.inr ⟨by rfl, rfl⟩) ?_; try simp only [Act.put, zA, zB, zC, zD, zE, zF]
 refine zv 6 rfl ?_
 refine zv 7 rfl ?_
 refine zk 8 rfl (v := undef) (.inr ⟨by rfl, rfl⟩) ?_; try simp only [Act.put, zA, zB, zC, zD, zE, zF]
 refine zk 9 rfl (v := undef) (.inr ⟨by rfl, rfl⟩) ?_; try simp only [Act.put, zA, zB, zC, zD, zE, zF]
 refine zk 10 rfl (v := undef) (.inr ⟨by rfl, rfl⟩) ?_; try simp only [Act.put, zA, zB, zC, zD, zE, zF]
 refine zk 11 rfl (v := undef) (.inr ⟨by rfl, rfl⟩) ?_; try simp only [Act.put, zA, zB, zC, zD, zE, zF]
 refine zr 12 rfl (fun K hK => ?_)
 rw [if_neg (by exact Bool.false_ne_true)]
 refine hK.out _ _ ⟨HK2.out, HS2.out⟩ fun _ => ?_; clear hK K
 try simp only [Act.put, zA, zB, zC, zD, zE, zF]
 refine zk 13 rfl (v := undef) (.inr ⟨by rfl, rfl⟩) ?_; try simp only [Act.put, zA, zB, zC, zD, zE, zF]
 refine zv 14 rfl ?_
 refine zv 15 rfl ?_
 refine zk 16 rfl (v := undef) (.inr ⟨by rfl, rfl⟩) ?_; try simp only [Act.put, zA, zB, zC, zD, zE, zF]
 refine zk 17 rfl (v := undef) (.inr ⟨by rfl, rfl⟩) ?_; try simp only [Act.put, zA, zB, zC, zD, zE, zF]
 refine zk 18 rfl (v := undef) (.inr ⟨by rfl, rfl⟩) ?_; try simp only [Act.put, zA, zB, zC, zD, zE, zF]
 refine zk 19 rfl (v := undef) (.inr ⟨by rfl, rfl⟩) ?_; try simp only [Act.put, zA, zB, zC, zD, zE, zF]
 refine zv 20 rfl ?_
 refine zv 21 rfl ?_
 refine zk 22 rfl (v := undef) (.inr ⟨by rfl, rfl⟩) ?_; try simp only [Act.put, zA, zB, zC, zD, zE, zF]
 refine zk 23 rfl (v := undef) (.inr ⟨by rfl, rfl⟩) ?_; try simp only [Act.put, zA, zB, zC, zD, zE, zF]
 refine zk 24 rfl (v := undef) (.inr ⟨by rfl, rfl⟩) ?_; try simp only [Act.put, zA, zB, zC, zD, zE, zF]
 refine zk 25 rfl (v := undef) (.inr ⟨by rfl, rfl⟩) ?_; try simp only [Act.put, zA, zB, zC, zD, zE, zF]
 refine zk 26 rfl (v := undef) (.inr ⟨by rfl, rfl⟩) ?_; try simp only [Act.put, zA, zB, zC, zD, zE, zF]
 refine zk 27 rfl (v := undef) (.inr ⟨by rfl, rfl⟩) ?_; try simp only [Act.put, zA, zB, zC, zD, zE, zF]
 refine zv 28 rfl ?_
 refine zv 29 rfl ?_
 refine zd ?_ _
 go_wp2_with fail
 go_ret
 exact ⟨rfl, HT0.out.b.trans (HB2.out.mono (by omega))⟩
theorem BJ (h : Nat) (r : List Int) (l : Int) (sp1 : Option Addr) (n c1 : Nat) (sp2 : Option Addr) (m c2 : Nat) (w : World) (hr : H16 r) (hh : h ≤ 6) (hl : l < 0) :
 Calls Tryz.prog 87 #[.agg (pkA (h : Int) r), .agg (siA l (.slice sp1 n c1) (.slice sp2 m c2))] w fun e w' => e = .returned (.bool false) ∧ Below w.heap.size w w' := by
 have jG := zh hr
 have HV : Hid (eK (h : Int) = true) := by show _ = _; unfold eK; simp; omega
 have HLV := zh (fun w' => eO h w' hh)
 have q1 : decide (0 ≤ l) = false := by simp; omega
 clear hl hr
 have HT := zh (PsBox.new w (h : Int) r l (.slice sp1 n c1) (.slice sp2 m c2))
 go_enter Tryz.func87, Tryz.ntmps87
 go_wp2_with fail
 generalize hw0 : World.alloc (World.alloc w _) _ = w0
 have HT0 : Hid (PsBox w (h : Int) r l (.slice sp1 n c1) (.slice sp2 m c2) w0) := by rw [← hw0]; exact HT.out
 clear hw0 HT
 have hs0 : w.heap.size + 2 ≤ w0.heap.size := Nat.le_of_eq HT0.out.z.symm
 have HVC := zh (fun w' => (show Calls Tryz.prog 124 #[.agg (pkL (h : Int) r).toArray] w' fun e w'' => e = .returned (.bool (eK (h : Int))) ∧ Below w'.heap.size w' w'' from iK (h : Int) r w'))
 refine wp_region_held_drew (S := fun w' => w'.heap[w.heap.size]? = some (.cells (pkA (h : Int) r) 56 (0, 0)) ∧ w'.heap[w.heap.size + 1]? = some (.cells (siA l (.slice sp1 n c1) (.slice sp2 m c2)) 60 (0, 0))) (by kernel_rfl) ⟨HT0.out.k, HT0.out.s⟩ (fun hHeld => ?_)
 refine' zk 0 rfl (v := _) (yieldsIf_load_mid (by rfl) _ _ rfl _ _ rfl _ _ ?hS0n47 Tryz.underlying56 rfl (jA jG.out)) ?rest0n47
 case hS0n47 =>
  intro w' hSw
  exact aV hSw.1
 try simp only [Act.put, zA, zB, zC, zD, zE, zF]
 refine zr 1 rfl (fun K hK => ?_)
 go_simp
 with_reducible refine (HVC.out _).mono ?_
 rintro e w2 ⟨rfl, hb⟩
 rw [HV.out]
 have HB2 : Hid (Below w0.heap.size w0 w2) := (Below.refl _ _).drew.trans hb
 clear hb
 have HK2 : Hid (w2.heap[w.heap.size]? = some (.cells (pkA (h : Int) r) 56 (0, 0))) := (HB2.out.block _ (by omega)).trans HT0.out.k
 have HS2 : Hid (w2.heap[w.heap.size + 1]? = some (.cells (siA l (.slice sp1 n c1) (.slice sp2 m c2)) 60 (0, 0))) := (HB2.out.block _ (by omega)).trans HT0.out.s
 go_wp2_with fail
 refine hK.out _ _ ⟨HK2.out, HS2.out⟩ fun _ => ?_; clear hK K
 try simp only [Act.put, zA, zB, zC, zD, zE, zF]
 refine zv 2 rfl ?_
 refine zv 3 rfl ?_
 refine zx 4 rfl (v := ?_) ?_ ?_; rotate_left
 ·intro w' hSw; have c1 := rH hSw.2; go_simp; try with_reducible rfl
 refine zv 5 rfl ?_
 refine zv 6 rfl ?_
 refine zv 7 rfl ?_
 refine zk 8 rfl (v := undef) (.inr ⟨by rfl, rfl⟩) ?_; try simp only [Act.put, zA, zB, zC, zD, zE, zF]
 refine zk 9 rfl (v := undef) (.inr ⟨by rfl, rfl⟩) ?_; try simp only [Act.put, zA, zB, zC, zD, zE, zF]
 refine zk 10 rfl (v := undef) (.inr ⟨by rfl, rfl⟩) ?_; try simp only [Act.put, zA, zB, zC, zD, zE, zF]
 refine zk 11 rfl (v := undef) (.inr ⟨by rfl, rfl⟩) ?_; try simp only [Act.put, zA, zB, zC, zD, zE, zF]
 refine zr 12 rfl (fun K hK => ?_)
 rw [if_neg (by exact Bool.false_ne_true)]
 refine hK.out _ _ ⟨HK2.out, HS2.out⟩ fun _ => ?_; clear hK K
 try simp only [Act.put, zA, zB, zC, zD, zE, zF]
 refine zk 13 rfl (v := undef) (.inr ⟨by rfl, rfl⟩) ?_; try simp only [Act.put, zA, zB, zC, zD, zE, zF]
 refine zv 14 rfl ?_
 refine zv 15 rfl ?_
 refine zk 16 rfl (v := undef) (.inr ⟨by rfl, rfl⟩) ?_; try simp only [Act.put, zA, zB, zC, zD, zE, zF]
 refine zk 17 rfl (v := undef) (.inr ⟨by rfl, rfl⟩) ?_; try simp only [Act.put, zA, zB, zC, zD, zE, zF]
 refine zk 18 rfl (v := undef) (.inr ⟨by rfl, rfl⟩) ?_; try simp only [Act.put, zA, zB, zC, zD, zE, zF]
 refine zk 19 rfl (v := undef) (.inr ⟨by rfl, rfl⟩) ?_; try simp only [Act.put, zA, zB, zC, zD, zE, zF]
 refine zv 20 rfl ?_
 refine zv 21 rfl ?_
 refine zk 22 rfl (v := undef) (.inr ⟨by rfl, rfl⟩) ?_; try simp only [Act.put, zA, zB, zC, zD, zE, zF]
 refine zk 23 rfl (v := undef) (.inr ⟨by rfl, rfl⟩) ?_; try simp only [Act.put, zA, zB, zC, zD, zE, zF]
 refine zk 24 rfl (v := undef) (.inr ⟨by rfl, rfl⟩) ?_; try simp only [Act.put, zA, zB, zC, zD, zE, zF]
 refine zk 25 rfl (v := undef) (.inr ⟨by rfl, rfl⟩) ?_; try simp only [Act.put, zA, zB, zC, zD, zE, zF]
 refine zk 26 rfl (v := undef) (.inr ⟨by rfl, rfl⟩) ?_; try simp only [Act.put, zA, zB, zC, zD, zE, zF]
 refine zk 27 rfl (v := undef) (.inr ⟨by rfl, rfl⟩) ?_; try simp only [Act.put, zA, zB, zC, zD, zE, zF]
 refine zv 28 rfl ?_
 refine zv 29 rfl ?_
 refine zd ?_ _
 go_wp2_with fail
 go_ret
 exact ⟨rfl, HT0.out.b.trans (HB2.out.mono (by omega))⟩
theorem BI (h : Nat) (r : List Int) (l : Int) (sp1 : Option Addr) (n c1 : Nat) (sp2 : Option Addr) (m c2 : Nat) (w : World) (hr : H16 r) (hh : h ≤ 6) (hl : 0 ≤ l) (hl2 : lvN h ≤ l) :
 Calls Tryz.prog 87 #[.agg (pkA (h : Int) r), .agg (siA l (.slice sp1 n c1) (.slice sp2 m c2))] w fun e w' => e = .returned (.bool false) ∧ Below w.heap.size w w' := by
 have jG := zh hr
 have HV : Hid (eK (h : Int) = true) := by show _ = _; unfold eK; simp; omega
 have HLV := zh (fun w' => eO h w' hh)
 have q1 : decide (0 ≤ l) = true := by simp; omega
 have q2 : decide (l < lvN h) = false := by simp; omega
 clear hl hl2 hr
 have HT := zh (PsBox.new w (h : Int) r l (.slice sp1 n c1) (.slice sp2 m c2))
 go_enter Tryz.func87, Tryz.ntmps87
 go_wp2_with fail
 generalize hw0 : World.alloc (World.alloc w _) _ = w0
 have HT0 : Hid (PsBox w (h : Int) r l (.slice sp1 n c1) (.slice sp2 m c2) w0) := by rw [← hw0]; exact HT.out
 clear hw0 HT
 have hs0 : w.heap.size + 2 ≤ w0.heap.size := Nat.le_of_eq HT0.out.z.symm
 have HVC := zh (fun w' => (show Calls Tryz.prog 124 #[.agg (pkL (h : Int) r).toArray] w' fun e w'' => e = .returned (.bool (eK (h : Int))) ∧ Below w'.heap.size w' w'' from iK (h : Int) r w'))
 refine wp_region_held_drew (S := fun w' => w'.heap[w.heap.size]? = some (.cells (pkA (h : Int) r) 56 (0, 0)) ∧ w'.heap[w.heap.size + 1]? = some (.cells (siA l (.slice sp1 n c1) (.slice sp2 m c2)) 60 (0, 0))) (by kernel_rfl) ⟨HT0.out.k, HT0.out.s⟩ (fun hHeld => ?_)
 refine' zk 0 rfl (v := _) (yieldsIf_load_mid (by rfl) _ _ rfl _ _ rfl _ _ ?hS0n90 Tryz.underlying56 rfl (jA jG.out)) ?rest0n90
 case hS0n90 =>
  intro w' hSw
  exact aV hSw.1
 try simp only [Act.put, zA, zB, zC, zD, zE, zF]
 refine zr 1 rfl (fun K hK => ?_)
 go_simp
 with_reducible refine (HVC.out _).mono ?_
 rintro e w2 ⟨rfl, hb⟩
 rw [HV.out]
 have HB2 : Hid (Below w0.heap.size w0 w2) := (Below.refl _ _).drew.trans hb
 clear hb
 have HK2 : Hid (w2.heap[w.heap.size]? = some (.cells (pkA (h : Int) r) 56 (0, 0))) := (HB2.out.block _ (by omega)).trans HT0.out.k
 have HS2 : Hid (w2.heap[w.heap.size + 1]? = some (.cells (siA l (.slice sp1 n c1) (.slice sp2 m c2)) 60 (0, 0))) := (HB2.out.block _ (by omega)).trans HT0.out.s
 go_wp2_with fail
 refine hK.out _ _ ⟨HK2.out, HS2.out⟩ fun _ => ?_; clear hK K
 try simp only [Act.put, zA, zB, zC, zD, zE, zF]
 refine zv 2 rfl ?_
 refine zv 3 rfl ?_
 refine zx 4 rfl (v := ?_) ?_ ?_; rotate_left
 ·intro w' hSw; have c1 := rH hSw.2; go_simp; try with_reducible rfl
 refine zv 5 rfl ?_
 refine zv 6 rfl ?_
 refine zv 7 rfl ?_
 refine zv 8 rfl ?_
 refine zx 9 rfl (v := ?_) ?_ ?_; rotate_left
 ·intro w' hSw; have c1 := rH hSw.2; go_simp; try with_reducible rfl
 refine zv 10 rfl ?_
 refine zx 11 rfl (v := ?_) ?_ ?_; rotate_left
 ·intro w' hSw; have c1 := uW hSw.1; go_simp; try with_reducible rfl
 refine zr 12 rfl (fun K hK => ?_)
 go_simp
 with_reducible refine (HLV.out _).mono ?_
 rintro e w' ⟨rfl, rfl⟩
 go_wp2_with fail
 refine hK.out _ _ ⟨HK2.out, HS2.out⟩ fun _ => ?_; clear hK K
 try simp only [Act.put, zA, zB, zC, zD, zE, zF]
 refine zv 13 rfl ?_
 refine zv 14 rfl ?_
 refine zv 15 rfl ?_
 refine zk 16 rfl (v := undef) (.inr ⟨by rfl, rfl⟩) ?_; try simp only [Act.put, zA, zB, zC, zD, zE, zF]
 refine zk 17 rfl (v := undef) (.inr ⟨by rfl, rfl⟩) ?_; try simp only [Act.put, zA, zB, zC, zD, zE, zF]
 refine zk 18 rfl (v := undef) (.inr ⟨by rfl, rfl⟩) ?_; try simp only [Act.put, zA, zB, zC, zD, zE, zF]
 refine zk 19 rfl (v := undef) (.inr ⟨by rfl, rfl⟩) ?_; try simp only [Act.put, zA, zB, zC, zD, zE, zF]
 refine zv 20 rfl ?_
 refine zv 21 rfl ?_
 refine zk 22 rfl (v := undef) (.inr ⟨by rfl, rfl⟩) ?_; try simp only [Act.put, zA, zB, zC, zD, zE, zF]
 refine zk 23 rfl (v := undef) (.inr ⟨by rfl, rfl⟩) ?_; try simp only [Act.put, zA, zB, zC, zD, zE, zF]
 refine zk 24 rfl (v := undef) (.inr ⟨by rfl, rfl⟩) ?_; try simp only [Act.put, zA, zB, zC, zD, zE, zF]
 refine zk 25 rfl (v := undef) (.inr ⟨by rfl, rfl⟩) ?_; try simp only [Act.put, zA, zB, zC, zD, zE, zF]
 refine zk 26 rfl (v := undef) (.inr ⟨by rfl, rfl⟩) ?_; try simp only [Act.put, zA, zB, zC, zD, zE, zF]
 refine zk 27 rfl (v := undef) (.inr ⟨by rfl, rfl⟩) ?_; try simp only [Act.put, zA, zB, zC, zD, zE, zF]
 refine zv 28 rfl ?_
 refine zv 29 rfl ?_
 refine zd ?_ _
 go_wp2_with fail
 go_ret
 exact ⟨rfl, HT0.out.b.trans (HB2.out.mono (by omega))⟩
theorem BH (h : Nat) (r : List Int) (l : Int) (sp1 : Option Addr) (n c1 : Nat) (sp2 : Option Addr) (m c2 : Nat) (w : World) (hr : H16 r) (hh : h ≤ 6) (hl : 0 ≤ l) (hl2 : l < lvN h) (hn : n ≠ 68) :
 Calls Tryz.prog 87 #[.agg (pkA (h : Int) r), .agg (siA l (.slice sp1 n c1) (.slice sp2 m c2))] w fun e w' => e = .returned (.bool false) ∧ Below w.heap.size w w' := by
 have jG := zh hr
 have HV : Hid (eK (h : Int) = true) := by show _ = _; unfold eK; simp; omega
 have HLV := zh (fun w' => eO h w' hh)
 have q1 : decide (0 ≤ l) = true := by simp; omega
 have q2 : decide (l < lvN h) = true := by simp; omega
 have q3 : ((n : Int) == 68) = false := by simp; omega
 clear hl hl2 hn hr
 have HT := zh (PsBox.new w (h : Int) r l (.slice sp1 n c1) (.slice sp2 m c2))
 go_enter Tryz.func87, Tryz.ntmps87
 go_wp2_with fail
 generalize hw0 : World.alloc (World.alloc w _) _ = w0
 have HT0 : Hid (PsBox w (h : Int) r l (.slice sp1 n c1) (.slice sp2 m c2) w0) := by rw [← hw0]; exact HT.out
 clear hw0 HT
 have hs0 : w.heap.size + 2 ≤ w0.heap.size := Nat.le_of_eq HT0.out.z.symm
 have HVC := zh (fun w' => (show Calls Tryz.prog 124 #[.agg (pkL (h : Int) r).toArray] w' fun e w'' => e = .returned (.bool (eK (h : Int))) ∧ Below w'.heap.size w' w'' from iK (h : Int) r w'))
 refine wp_region_held_drew (S := fun w' => w'.heap[w.heap.size]? = some (.cells (pkA (h : Int) r) 56 (0, 0)) ∧ w'.heap[w.heap.size + 1]? = some (.cells (siA l (.slice sp1 n c1) (.slice sp2 m c2)) 60 (0, 0))) (by kernel_rfl) ⟨HT0.out.k, HT0.out.s⟩ (fun hHeld => ?_)
 refine' zk 0 rfl (v := _) (yieldsIf_load_mid (by rfl) _ _ rfl _ _ rfl _ _ ?hS0n128 Tryz.underlying56 rfl (jA jG.out)) ?rest0n128
 case hS0n128 =>
  intro w' hSw
  exact aV hSw.1
 try simp only [Act.put, zA, zB, zC, zD, zE, zF]
 refine zr 1 rfl (fun K hK => ?_)
 go_simp
 with_reducible refine (HVC.out _).mono ?_
 rintro e w2 ⟨rfl, hb⟩
 rw [HV.out]
 have HB2 : Hid (Below w0.heap.size w0 w2) := (Below.refl _ _).drew.trans hb
 clear hb
 have HK2 : Hid (w2.heap[w.heap.size]? = some (.cells (pkA (h : Int) r) 56 (0, 0))) := (HB2.out.block _ (by omega)).trans HT0.out.k
 have HS2 : Hid (w2.heap[w.heap.size + 1]? = some (.cells (siA l (.slice sp1 n c1) (.slice sp2 m c2)) 60 (0, 0))) := (HB2.out.block _ (by omega)).trans HT0.out.s
 go_wp2_with fail
 refine hK.out _ _ ⟨HK2.out, HS2.out⟩ fun _ => ?_; clear hK K
 try simp only [Act.put, zA, zB, zC, zD, zE, zF]
 refine zv 2 rfl ?_
 refine zv 3 rfl ?_
 refine zx 4 rfl (v := ?_) ?_ ?_; rotate_left
 ·intro w' hSw; have c1 := rH hSw.2; go_simp; try with_reducible rfl
 refine zv 5 rfl ?_
 refine zv 6 rfl ?_
 refine zv 7 rfl ?_
 refine zv 8 rfl ?_
 refine zx 9 rfl (v := ?_) ?_ ?_; rotate_left
 ·intro w' hSw; have c1 := rH hSw.2; go_simp; try with_reducible rfl
 refine zv 10 rfl ?_
 refine zx 11 rfl (v := ?_) ?_ ?_; rotate_left
 ·intro w' hSw; have c1 := uW hSw.1; go_simp; try with_reducible rfl
 refine zr 12 rfl (fun K hK => ?_)
 go_simp
 with_reducible refine (HLV.out _).mono ?_
 rintro e w' ⟨rfl, rfl⟩
 go_wp2_with fail
 refine hK.out _ _ ⟨HK2.out, HS2.out⟩ fun _ => ?_; clear hK K
 try simp only [Act.put, zA, zB, zC, zD, zE, zF]
 refine zv 13 rfl ?_
 refine zv 14 rfl ?_
 refine zv 15 rfl ?_
 refine zv 16 rfl ?_
 refine zx 17 rfl (v := ?_) ?_ ?_; rotate_left
 ·intro w' hSw; have c1 := zH hSw.2; go_simp; try with_reducible rfl
 refine zv 18 rfl ?_
 refine zv 19 rfl ?_
 refine zv 20 rfl ?_
 refine zv 21 rfl ?_
 refine zk 22 rfl (v := undef) (.inr ⟨by rfl, rfl⟩) ?_; try simp only [Act.put, zA, zB, zC, zD, zE, zF]
 refine zk 23 rfl (v := undef) (.inr ⟨by rfl, rfl⟩) ?_; try simp only [Act.put, zA, zB, zC, zD, zE, zF]
 refine zk 24 rfl (v := undef) (.inr ⟨by rfl, rfl⟩) ?_; try simp only [Act.put, zA, zB, zC, zD, zE, zF]
 refine zk 25 rfl (v := undef) (.inr ⟨by rfl, rfl⟩) ?_; try simp only [Act.put, zA, zB, zC, zD, zE, zF]
 refine zk 26 rfl (v := undef) (.inr ⟨by rfl, rfl⟩) ?_; try simp only [Act.put, zA, zB, zC, zD, zE, zF]
 refine zk 27 rfl (v := undef) (.inr ⟨by rfl, rfl⟩) ?_; try simp only [Act.put, zA, zB, zC, zD, zE, zF]
 refine zv 28 rfl ?_
 refine zv 29 rfl ?_
 refine zd ?_ _
 go_wp2_with fail
 go_ret
 exact ⟨rfl, HT0.out.b.trans (HB2.out.mono (by omega))⟩
theorem BG (h : Nat) (r : List Int) (l : Int) (sp1 : Option Addr) (n c1 : Nat) (sp2 : Option Addr) (m c2 : Nat) (w : World) (hr : H16 r) (hh : h ≤ 6) (hl : 0 ≤ l) (hl2 : l < lvN h) (hn : n = 68) (hm : m ≠ h) :
 Calls Tryz.prog 87 #[.agg (pkA (h : Int) r), .agg (siA l (.slice sp1 n c1) (.slice sp2 m c2))] w fun e w' => e = .returned (.bool false) ∧ Below w.heap.size w w' := by
 have jG := zh hr
 have HV : Hid (eK (h : Int) = true) := by show _ = _; unfold eK; simp; omega
 have HLV := zh (fun w' => eO h w' hh)
 have q1 : decide (0 ≤ l) = true := by simp; omega
 have q2 : decide (l < lvN h) = true := by simp; omega
 have q3 : ((n : Int) == 68) = true := by simp; omega
 have q4 : ((m : Int) == (h : Int)) = false := by simp; omega
 clear hl hl2 hn hm hr
 have HT := zh (PsBox.new w (h : Int) r l (.slice sp1 n c1) (.slice sp2 m c2))
 go_enter Tryz.func87, Tryz.ntmps87
 go_wp2_with fail
 generalize hw0 : World.alloc (World.alloc w _) _ = w0
 have HT0 : Hid (PsBox w (h : Int) r l (.slice sp1 n c1) (.slice sp2 m c2) w0) := by rw [← hw0]; exact HT.out
 clear hw0 HT
 have hs0 : w.heap.size + 2 ≤ w0.heap.size := Nat.le_of_eq HT0.out.z.symm
 have HVC := zh (fun w' => (show Calls Tryz.prog 124 #[.agg (pkL (h : Int) r).toArray] w' fun e w'' => e = .returned (.bool (eK (h : Int))) ∧ Below w'.heap.size w' w'' from iK (h : Int) r w'))
 refine wp_region_held_drew (S := fun w' => w'.heap[w.heap.size]? = some (.cells (pkA (h : Int) r) 56 (0, 0)) ∧ w'.heap[w.heap.size + 1]? = some (.cells (siA l (.slice sp1 n c1) (.slice sp2 m c2)) 60 (0, 0))) (by kernel_rfl) ⟨HT0.out.k, HT0.out.s⟩ (fun hHeld => ?_)
 refine' zk 0 rfl (v := _) (yieldsIf_load_mid (by rfl) _ _ rfl _ _ rfl _ _ ?hS0n162 Tryz.underlying56 rfl (jA jG.out)) ?rest0n162
 case hS0n162 =>
  intro w' hSw
  exact aV hSw.1
 try simp only [Act.put, zA, zB, zC, zD, zE, zF]
 refine zr 1 rfl (fun K hK => ?_)
 go_simp
 with_reducible refine (HVC.out _).mono ?_
 rintro e w2 ⟨rfl, hb⟩
 rw [HV.out]
 have HB2 : Hid (Below w0.heap.size w0 w2) := (Below.refl _ _).drew.trans hb
 clear hb
 have HK2 : Hid (w2.heap[w.heap.size]? = some (.cells (pkA (h : Int) r) 56 (0, 0))) := (HB2.out.block _ (by omega)).trans HT0.out.k
 have HS2 : Hid (w2.heap[w.heap.size + 1]? = some (.cells (siA l (.slice sp1 n c1) (.slice sp2 m c2)) 60 (0, 0))) := (HB2.out.block _ (by omega)).trans HT0.out.s
 go_wp2_with fail
 refine hK.out _ _ ⟨HK2.out, HS2.out⟩ fun _ => ?_; clear hK K
 try simp only [Act.put, zA, zB, zC, zD, zE, zF]
 refine zv 2 rfl ?_
 refine zv 3 rfl ?_
 refine zx 4 rfl (v := ?_) ?_ ?_; rotate_left
 ·intro w' hSw; have c1 := rH hSw.2; go_simp; try with_reducible rfl
 refine zv 5 rfl ?_
 refine zv 6 rfl ?_
 refine zv 7 rfl ?_
 refine zv 8 rfl ?_
 refine zx 9 rfl (v := ?_) ?_ ?_; rotate_left
 ·intro w' hSw; have c1 := rH hSw.2; go_simp; try with_reducible rfl
 refine zv 10 rfl ?_
 refine zx 11 rfl (v := ?_) ?_ ?_; rotate_left
 ·intro w' hSw; have c1 := uW hSw.1; go_simp; try with_reducible rfl
 refine zr 12 rfl (fun K hK => ?_)
 go_simp
 with_reducible refine (HLV.out _).mono ?_
 rintro e w' ⟨rfl, rfl⟩
 go_wp2_with fail
 refine hK.out _ _ ⟨HK2.out, HS2.out⟩ fun _ => ?_; clear hK K
 try simp only [Act.put, zA, zB, zC, zD, zE, zF]
 refine zv 13 rfl ?_
 refine zv 14 rfl ?_
 refine zv 15 rfl ?_
 refine zv 16 rfl ?_
 refine zx 17 rfl (v := ?_) ?_ ?_; rotate_left
 ·intro w' hSw; have c1 := zH hSw.2; go_simp; try with_reducible rfl
 refine zv 18 rfl ?_
 refine zv 19 rfl ?_
 refine zv 20 rfl ?_
 refine zv 21 rfl ?_
 refine zv 22 rfl ?_
 refine zx 23 rfl (v := ?_) ?_ ?_; rotate_left
 ·intro w' hSw; have c1 := vJ hSw.2; go_simp; try with_reducible rfl
 refine zv 24 rfl ?_
 refine zv 25 rfl ?_
 refine zx 26 rfl (v := ?_) ?_ ?_; rotate_left
 ·intro w' hSw; have c1 := uW hSw.1; go_simp; try with_reducible rfl
 refine zv 27 rfl ?_
 refine zv 28 rfl ?_
 refine zv 29 rfl ?_
 refine zd ?_ _
 go_wp2_with fail
 go_ret
 exact ⟨rfl, HT0.out.b.trans (HB2.out.mono (by omega))⟩
theorem BF (h : Nat) (r : List Int) (l : Int) (sp1 : Option Addr) (n c1 : Nat) (sp2 : Option Addr) (m c2 : Nat) (w : World) (hr : H16 r) (hh : h ≤ 6) (hl : 0 ≤ l) (hl2 : l < lvN h) (hn : n = 68) (hm : m = h) :
 Calls Tryz.prog 87 #[.agg (pkA (h : Int) r), .agg (siA l (.slice sp1 n c1) (.slice sp2 m c2))] w fun e w' => e = .returned (.bool true) ∧ Below w.heap.size w w' := by
 have jG := zh hr
 have HV : Hid (eK (h : Int) = true) := by show _ = _; unfold eK; simp; omega
 have HLV := zh (fun w' => eO h w' hh)
 have q1 : decide (0 ≤ l) = true := by simp; omega
 have q2 : decide (l < lvN h) = true := by simp; omega
 have q3 : ((n : Int) == 68) = true := by simp; omega
 have q4 : ((m : Int) == (h : Int)) = true := by simp; omega
 clear hl hl2 hn hm hr
 have HT := zh (PsBox.new w (h : Int) r l (.slice sp1 n c1) (.slice sp2 m c2))
 go_enter Tryz.func87, Tryz.ntmps87
 go_wp2_with fail
 generalize hw0 : World.alloc (World.alloc w _) _ = w0
 have HT0 : Hid (PsBox w (h : Int) r l (.slice sp1 n c1) (.slice sp2 m c2) w0) := by rw [← hw0]; exact HT.out
 clear hw0 HT
 have hs0 : w.heap.size + 2 ≤ w0.heap.size := Nat.le_of_eq HT0.out.z.symm
 have HVC := zh (fun w' => (show Calls Tryz.prog 124 #[.agg (pkL (h : Int) r).toArray] w' fun e w'' => e = .returned (.bool (eK (h : Int))) ∧ Below w'.heap.size w' w'' from iK (h : Int) r w'))
 refine wp_region_held_drew (S := fun w' => w'.heap[w.heap.size]? = some (.cells (pkA (h : Int) r) 56 (0, 0)) ∧ w'.heap[w.heap.size + 1]? = some (.cells (siA l (.slice sp1 n c1) (.slice sp2 m c2)) 60 (0, 0))) (by kernel_rfl) ⟨HT0.out.k, HT0.out.s⟩ (fun hHeld => ?_)
 refine' zk 0 rfl (v := _) (yieldsIf_load_mid (by rfl) _ _ rfl _ _ rfl _ _ ?hS0n190 Tryz.underlying56 rfl (jA jG.out)) ?rest0n190
 case hS0n190 =>
  intro w' hSw
  exact aV hSw.1
 try simp only [Act.put, zA, zB, zC, zD, zE, zF]
 refine zr 1 rfl (fun K hK => ?_)
 go_simp
 with_reducible refine (HVC.out _).mono ?_
 rintro e w2 ⟨rfl, hb⟩
 rw [HV.out]
 have HB2 : Hid (Below w0.heap.size w0 w2) := (Below.refl _ _).drew.trans hb
 clear hb
 have HK2 : Hid (w2.heap[w.heap.size]? = some (.cells (pkA (h : Int) r) 56 (0, 0))) := (HB2.out.block _ (by omega)).trans HT0.out.k
 have HS2 : Hid (w2.heap[w.heap.size + 1]? = some (.cells (siA l (.slice sp1 n c1) (.slice sp2 m c2)) 60 (0, 0))) := (HB2.out.block _ (by omega)).trans HT0.out.s
 go_wp2_with fail
 refine hK.out _ _ ⟨HK2.out, HS2.out⟩ fun _ => ?_; clear hK K
 try simp only [Act.put, zA, zB, zC, zD, zE, zF]
 refine zv 2 rfl ?_
 refine zv 3 rfl ?_
 refine zx 4 rfl (v := ?_) ?_ ?_; rotate_left
 ·intro w' hSw; have c1 := rH hSw.2; go_simp; try with_reducible rfl
 refine zv 5 rfl ?_
 refine zv 6 rfl ?_
 refine zv 7 rfl ?_
 refine zv 8 rfl ?_
 refine zx 9 rfl (v := ?_) ?_ ?_; rotate_left
 ·intro w' hSw; have c1 := rH hSw.2; go_simp; try with_reducible rfl
 refine zv 10 rfl ?_
 refine zx 11 rfl (v := ?_) ?_ ?_; rotate_left
 ·intro w' hSw; have c1 := uW hSw.1; go_simp; try with_reducible rfl
 refine zr 12 rfl (fun K hK => ?_)
 go_simp
 with_reducible refine (HLV.out _).mono ?_
 rintro e w' ⟨rfl, rfl⟩
 go_wp2_with fail
 refine hK.out _ _ ⟨HK2.out, HS2.out⟩ fun _ => ?_; clear hK K
 try simp only [Act.put, zA, zB, zC, zD, zE, zF]
 refine zv 13 rfl ?_
 refine zv 14 rfl ?_
 refine zv 15 rfl ?_
 refine zv 16 rfl ?_
 refine zx 17 rfl (v := ?_) ?_ ?_; rotate_left
 ·intro w' hSw; have c1 := zH hSw.2; go_simp; try with_reducible rfl
 refine zv 18 rfl ?_
 refine zv 19 rfl ?_
 refine zv 20 rfl ?_
 refine zv 21 rfl ?_
 refine zv 22 rfl ?_
 refine zx 23 rfl (v := ?_) ?_ ?_; rotate_left
 ·intro w' hSw; have c1 := vJ hSw.2; go_simp; try with_reducible rfl
 refine zv 24 rfl ?_
 refine zv 25 rfl ?_
 refine zx 26 rfl (v := ?_) ?_ ?_; rotate_left
 ·intro w' hSw; have c1 := uW hSw.1; go_simp; try with_reducible rfl
 refine zv 27 rfl ?_
 refine zv 28 rfl ?_
 refine zv 29 rfl ?_
 refine zd ?_ _
 go_wp2_with fail
 go_ret
 exact ⟨rfl, HT0.out.b.trans (HB2.out.mono (by omega))⟩
end Go.Proofs.YtcligodahogpkaaGreatDoor
