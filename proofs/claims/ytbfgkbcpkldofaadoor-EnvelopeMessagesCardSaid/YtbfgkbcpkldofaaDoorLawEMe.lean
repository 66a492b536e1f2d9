/-
  The walk of EnvelopeMessages (conditions: the payload reads as bytes; the table of constants reads as it is laid).
-/
import Derived.Test.YtbfgkbcpkldofaaDoorH5
namespace Go.Proofs.YtbfgkbcpkldofaaDoor
open Go.RowKit Go.Proofs.YtbfgkbcpkldofaaDoor.One

set_option maxRecDepth 100000 in
set_option maxHeartbeats 4000000 in
theorem envelopeMessages_any (t : ByteArray) (sp : Option Addr) (n cap : Nat) (b : List UInt8) (w : World) (hp : BSrc w w.heap.size sp n cap b) (hk : KayIn w) (hk0 : 1 < w.heap.size) :
    Calls Tryd.prog 5 #[.string t, .slice sp n cap] w fun e w' => e = .returned (.bool true) ∧ Below w.heap.size w w' := by
  have HP := Lib.hid hp; have HK := Lib.hid hk
  clear hp hk
  have HMO := Lib.hid (msgB_ok t b)
  by_cases h1 : t.size > 40000
  · have hd1 : decide ((t.size : Int) > 40000) = true := by simp; omega
    go_enter Tryd.func5, Tryd.ntmps5
    go_wp2_with fail
    go_ret
    exact ⟨rfl, Below.refl _ _⟩
  · have hd1 : decide ((t.size : Int) > 40000) = false := by simp; omega
    by_cases h2 : n > 100000
    · have hd2 : decide ((n : Int) > 100000) = true := by simp; omega
      go_enter Tryd.func5, Tryd.ntmps5
      go_wp2_with fail
      go_ret
      exact ⟨rfl, Below.refl _ _⟩
    · have hd2 : decide ((n : Int) > 100000) = false := by simp; omega
      have HA := Lib.hid (awake10_any w HK.out hk0)
      go_enter Tryd.func5, Tryd.ntmps5
      go_wp2_with fail
      refine HA.out.mono ?_
      rintro e w1 ⟨rfl, hb⟩
      have HB1 := Lib.hid hb
      clear hb HA
      have hs1 := HB1.out.size
      have HC1 := Lib.hid (message_any t sp n cap b w1 ((HP.out.below HB1.out (Nat.le_refl _)).more hs1) (HK.out.below HB1.out hk0) (by omega))
      go_wp2_with fail
      refine HC1.out.mono ?_
      rintro e w2 ⟨rfl, hb⟩
      have HB2 := Lib.hid hb
      clear hb HC1
      have HBW : Hid (Below w.heap.size w w2) := HB1.out.trans (HB2.out.mono hs1)
      have hs2 := HBW.out.size
      have HC2 := Lib.hid (rmessage_any t sp n cap b w2 ((HP.out.below HBW.out (Nat.le_refl _)).more hs2))
      have he : ∀ w', (binOp .eql 25 (.agg (dgA (msgB t b))) (.agg (dgA (msgB t b)))).run Tryd.prog w' = .ok (.bool true) w' := fun w' => by
        have := eqlD (msgB t b) (msgB t b) HMO.out.1 HMO.out.1 w'
        rw [decide_eq_true rfl] at this
        exact this
      generalize dgA (msgB t b) = M at *
      go_wp2_with fail
      refine HC2.out.mono ?_
      rintro e w3 ⟨rfl, hb⟩
      have HB3 := Lib.hid hb
      clear hb HC2
      go_wp2_with fail
      go_ret
      exact ⟨rfl, HBW.out.trans (HB3.out.mono hs2)⟩
end Go.Proofs.YtbfgkbcpkldofaaDoor
