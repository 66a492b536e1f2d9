/-
  Keys of many one-time keys: the walk of the reference's Same on two signatures with the same lists.
-/
import Derived.Test.YtcligodahogpkaaGreatDoorZip
import Derived.Test.YtcligodahogpkaaGreatDoorKeyS
set_option maxRecDepth 100000
set_option maxHeartbeats 8000000
namespace Go.Proofs.YtcligodahogpkaaGreatDoor
open Go.RowKit Go.Proofs.YtcligodahogpkaaGreatDoor.One
structure SsBox (w : World) (l : Int) (c p c' p' : Value) (w0 : World) : Prop where
 a : w0.heap[w.heap.size]? = some (.cells (siA l c p) 60 (0, 0))
 d : w0.heap[w.heap.size + 1]? = some (.cells (siA l c' p') 60 (0, 0))
 b : Below w.heap.size w w0
 s : w0.heap.size = w.heap.size + 2
theorem SsBox.new (w : World) (l : Int) (c p c' p' : Value) : SsBox w l c p c' p' ((w.alloc (.cells (siA l c p) 60)).alloc (.cells (siA l c' p') 60)) :=
 ⟨(heap_alloc_old _ _ (by simp)).trans (heap_alloc_new w _), by have h := heap_alloc_new (w.alloc (.cells (siA l c p) 60)) (.cells (siA l c' p') 60); rw [World.size_alloc] at h; exact h, ((Below.refl _ _).alloc (Nat.le_refl _) _).alloc (by simp) _, by simp⟩
theorem BN (l : Int) (sp1 sp2 sp3 sp4 : Option Addr) (n m c1 c2 c3 c4 : Nat) (cl pl : List (List Int)) (w : World) (hc : HvsIn w w.heap.size sp1 n c1 cl) (hp : HvsIn w w.heap.size sp2 m c2 pl) (hc' : HvsIn w w.heap.size sp3 n c3 cl) (hp' : HvsIn w w.heap.size sp4 m c4 pl) (hn : n ≤ 1000) (hm : m ≤ 1000) :
 Calls Tryz.prog 33 #[.agg (siA l (.slice sp1 n c1) (.slice sp2 m c2)), .agg (siA l (.slice sp3 n c3) (.slice sp4 m c4))] w fun e w' => e = .returned (.bool true) ∧ Below w.heap.size w w' := by
 have HC := zh hc; have HP := zh hp; have HC' := zh hc'; have HP' := zh hp'
 clear hc hp hc' hp'
 have HT := zh (SsBox.new w l (.slice sp1 n c1) (.slice sp2 m c2) (.slice sp3 n c3) (.slice sp4 m c4))
 have q1 : (l == l) = true := by simp
 go_enter Tryz.func33, Tryz.ntmps33
 go_upto_region 1 with (fail)
 generalize hw0 : World.alloc (World.alloc w _) _ = w0
 have HT0 : Hid (SsBox w l (.slice sp1 n c1) (.slice sp2 m c2) (.slice sp3 n c3) (.slice sp4 m c4) w0) := by rw [← hw0]; exact HT.out
 clear hw0 HT
 have hs0 : w.heap.size + 2 ≤ w0.heap.size := Nat.le_of_eq HT0.out.s.symm
 have a1 := nK HT0.out.a; have a2 := rX HT0.out.a
 have b1 := nK HT0.out.d; have b2 := rX HT0.out.d
 go_wp2_with fail
 clear a1 a2 b1 b2
 refine (sM sp1 sp3 n c1 c3 cl w0 ((HC.out.below HT0.out.b (Nat.le_refl _)).more (by omega)) ((HC'.out.below HT0.out.b (Nat.le_refl _)).more (by omega)) hn).mono ?_
 rintro e w1 ⟨rfl, hb⟩
 have hs1 := hb.size
 have HB1 : Hid (Below w.heap.size w w1) := HT0.out.b.trans (hb.mono (by omega))
 have a3 := oF ((hb.block _ (by omega)).trans HT0.out.a)
 have b3 := oF ((hb.block _ (by omega)).trans HT0.out.d)
 clear hb HT0
 go_wp2_with fail
 clear a3 b3
 refine (sM sp2 sp4 m c2 c4 pl w1 ((HP.out.below HB1.out (Nat.le_refl _)).more (by omega)) ((HP'.out.below HB1.out (Nat.le_refl _)).more (by omega)) hm).mono ?_
 rintro e w2 ⟨rfl, hb⟩
 have HB2 : Hid (Below w.heap.size w w2) := HB1.out.trans (hb.mono (by omega))
 clear hb
 go_wp2_with fail
 go_ret
 exact ⟨rfl, HB2.out⟩
end Go.Proofs.YtcligodahogpkaaGreatDoor
