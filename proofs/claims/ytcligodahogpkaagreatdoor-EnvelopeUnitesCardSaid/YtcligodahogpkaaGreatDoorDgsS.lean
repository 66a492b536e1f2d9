/-
  The walks of the reference's Same and Has at lists of digests (conditions: digests of 32 bytes, at most 1000000 elements).
-/
import Derived.Test.YtcligodahogpkaaGreatDoorZip
import Derived.Test.YtcligodahogpkaaGreatDoorH3
import Derived.Laws.Cover1
set_option maxRecDepth 100000
set_option maxHeartbeats 8000000
namespace Go.Proofs.YtcligodahogpkaaGreatDoor
open Go.RowKit
theorem sA {w : World} {B : Nat} {sp : Option Addr} {n cap : Nat} {l : List (List Int)} (h : DigsIn w B sp n cap l) {k : Nat} (hk : k < n) : ∃ (x : List Int) (b off : Nat), l[k]? = some x ∧ D32 x ∧ sp = some ⟨b, off, none⟩ ∧ b < B ∧ n ≤ cap ∧ w.rangeAt b (off + k * 32) (x.map (Value.int .u8)) := by
 obtain ⟨b, off, e, hb, hc, hr⟩ := h.cells (by omega)
 have hkl : k < l.length := by rw [h.len]; exact hk
 have hg : l.getD k [] = l[k] := by rw [List.getD_eq_getElem?_getD, List.getElem?_eq_getElem hkl]; rfl
 have hx := h.digs l[k] (List.getElem_mem hkl)
 exact ⟨l[k], b, off, List.getElem?_eq_getElem hkl, ⟨hx.1, hx.2⟩, e, hb, hc, by have := hr k hk; rwa [hg] at this⟩
theorem tC (sp1 : Option Addr) (n1 c1 : Nat) (a : List (List Int)) (sp2 : Option Addr) (n2 c2 : Nat) (b : List (List Int)) (w : World) (ha : DigsIn w w.heap.size sp1 n1 c1 a) (hb : DigsIn w w.heap.size sp2 n2 c2 b) (hn : n1 ≤ 100000000) (hab : a = b) :
 Calls Tryz.prog 15 #[.slice sp1 n1 c1, .slice sp2 n2 c2] w fun e w' => e = .returned (.bool true) ∧ Below w.heap.size w w' := by
 have HA := zh ha; have HBb := zh hb; clear ha hb
 obtain rfl : n1 = n2 := by rw [← HA.out.len, ← HBb.out.len, hab]
 have hd : (!((n1 : Int) == (n1 : Int))) = false := by simp
 have HAB := zh hab; clear hab
 go_enter Tryz.func15, Tryz.ntmps15
 go_wp2_with fail
 go_loopw [5] (fun i wr => ∃ k : Nat, k ≤ n1 ∧ i = .int .i64 k ∧ Hid (Below w.heap.size w wr)) (fun i _ => n1 - (intOf i).toNat)
 case atStart => exact ⟨0, Nat.zero_le _, rfl, Below.refl _ _⟩
 case round =>
  obtain ⟨k, hk, rfl, hbe⟩ := hrel
  by_cases hlt : k < n1
  ·have hd : decide ((k : Int) < (n1 : Int)) = true := by simp; omega
   obtain ⟨x, b1, o1, hx, hxo, rfl, hb1, hcap1, hr1⟩ := sA HA.out hlt
   obtain ⟨y, b2, o2, hy, hyo, rfl, hb2, hcap2, hr2⟩ := sA HBb.out hlt
   have hxy : x = y := by rw [HAB.out] at hx; exact Option.some.inj (hx.symm.trans hy)
   have HX := zh (aA hr1 hbe.out.drew hb1)
   have HY := zh (aA hr2 hbe.out.drew hb2)
   have HIX := zh (jP hxo); have HIY := zh (jP hyo)
   have he := neqD x y hxo.1 hyo.1
   rw [decide_eq_true hxy] at he
   have p1 : (0 : Int) ≤ (k : Int) := by omega
   have p2 : (k : Int) < (n1 : Int) := by omega
   have q1 : IntKind.i64.wrap (k : Int) = (k : Int) := IntWalk.i64_in _ (by omega)
   have HB1 := zh hbe.out.drew
   clear hx hy hr1 hr2 hxo hyo hxy
   go_wp2_with fail
   refine wp_region_held_drew (S := fun w' => w'.rangeAt b1 (o1 + k * 32) (x.map (Value.int .u8)) ∧ w'.rangeAt b2 (o2 + k * 32) (y.map (Value.int .u8))) (by kernel_rfl) ⟨HX.out, HY.out⟩ (fun hHeld => ?_)
   refine zv 0 rfl ?_
   refine zv 1 rfl ?_
   refine zv 2 rfl ?_
   refine' zk 3 rfl (v := _) (yieldsIf_load_mid (by rfl) _ _ rfl _ _ rfl _ _ ?hS3n4 Tryz.underlying43 rfl HIX.out) ?rest3n4
   case hS3n4 =>
    intro w' hSw
    exact hSw.1
   try simp only [Act.put, zA, zB, zC, zD, zE, zF]
   refine zv 4 rfl ?_
   refine zv 5 rfl ?_
   refine zv 6 rfl ?_
   refine' zk 7 rfl (v := _) (yieldsIf_load_mid (by rfl) _ _ rfl _ _ rfl _ _ ?hS7n8 Tryz.underlying43 rfl HIY.out) ?rest7n8
   case hS7n8 =>
    intro w' hSw
    exact hSw.2
   try simp only [Act.put, zA, zB, zC, zD, zE, zF]
   refine zv 8 rfl ?_
   refine zd ?_ _
   clear hHeld
   go_wp2_with fail
   go_roundw
   case rel => exact ⟨k + 1, by omega, by go_num, HB1⟩
   case measure => simp [intOf]; omega
  ·obtain rfl : k = n1 := by omega
   have hd : decide ((k : Int) < (k : Int)) = false := by simp
   go_wp2_with fail
   go_ret
   exact ⟨rfl, hbe.out⟩
end Go.Proofs.YtcligodahogpkaaGreatDoor
