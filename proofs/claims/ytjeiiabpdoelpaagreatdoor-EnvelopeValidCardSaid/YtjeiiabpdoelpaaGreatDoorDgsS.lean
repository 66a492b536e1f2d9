/-
  The walks of the reference's Same and Has at lists of digests (conditions: digests of 32 bytes, at most 1000000 elements).
-/
import Derived.Test.YtjeiiabpdoelpaaGreatDoorZip
import Derived.Test.YtjeiiabpdoelpaaGreatDoorH3
import Derived.Laws.Cover1
namespace Go.Proofs.YtjeiiabpdoelpaaGreatDoor
open Go.RowKit
theorem wH {w : World} {B : Nat} {sp : Option Addr} {n cap : Nat} {l : List (List Int)} (h : DigsIn w B sp n cap l) {k : Nat} (hk : k < n) : ∃ (x : List Int) (b off : Nat), l[k]? = some x ∧ D32 x ∧ sp = some ⟨b, off, none⟩ ∧ b < B ∧ n ≤ cap ∧ w.rangeAt b (off + k * 32) (x.map (Value.int .u8)) := by
 obtain ⟨b, off, e, hb, hc, hr⟩ := h.cells (by omega)
 have hkl : k < l.length := by rw [h.len]; exact hk
 have hg : l.getD k [] = l[k] := by rw [List.getD_eq_getElem?_getD, List.getElem?_eq_getElem hkl]; rfl
 have hx := h.digs l[k] (List.getElem_mem hkl)
 exact ⟨l[k], b, off, List.getElem?_eq_getElem hkl, ⟨hx.1, hx.2⟩, e, hb, hc, by have := hr k hk; rwa [hg] at this⟩
set_option maxRecDepth 100000 in
set_option maxHeartbeats 1000000 in
theorem zX (sp1 : Option Addr) (n1 c1 : Nat) (a : List (List Int)) (sp2 : Option Addr) (n2 c2 : Nat) (b : List (List Int)) (w : World) (ha : DigsIn w w.heap.size sp1 n1 c1 a) (hb : DigsIn w w.heap.size sp2 n2 c2 b) (hn : n1 ≤ 100000000) (hab : a = b) :
 Calls Tryz.prog 14 #[.slice sp1 n1 c1, .slice sp2 n2 c2] w fun e w' => e = .returned (.bool true) ∧ Below w.heap.size w w' := by
 have HA := Lib.hid ha; have HBb := Lib.hid hb; clear ha hb
 obtain rfl : n1 = n2 := by rw [← HA.out.len, ← HBb.out.len, hab]
 have hd : (!((n1 : Int) == (n1 : Int))) = false := by simp
 have HAB := Lib.hid hab; clear hab
 go_enter Tryz.func14, Tryz.ntmps14
 go_wp2_with fail
 go_loopw [5] (fun i wr => ∃ k : Nat, k ≤ n1 ∧ i = .int .i64 k ∧ Hid (Below w.heap.size w wr)) (fun i _ => n1 - (intOf i).toNat)
 case atStart => exact ⟨0, Nat.zero_le _, rfl, Below.refl _ _⟩
 case round =>
  obtain ⟨k, hk, rfl, hbe⟩ := hrel
  by_cases hlt : k < n1
  ·have hd : decide ((k : Int) < (n1 : Int)) = true := by simp; omega
   obtain ⟨x, b1, o1, hx, hxo, rfl, hb1, hcap1, hr1⟩ := wH HA.out hlt
   obtain ⟨y, b2, o2, hy, hyo, rfl, hb2, hcap2, hr2⟩ := wH HBb.out hlt
   have hxy : x = y := by rw [HAB.out] at hx; exact Option.some.inj (hx.symm.trans hy)
   have HX := Lib.hid (aA hr1 hbe.out.drew hb1)
   have HY := Lib.hid (aA hr2 hbe.out.drew hb2)
   have HIX := Lib.hid (pJ hxo); have HIY := Lib.hid (pJ hyo)
   have he := neqD x y hxo.1 hyo.1
   rw [decide_eq_true hxy] at he
   have p1 : (0 : Int) ≤ (k : Int) := by omega
   have p2 : (k : Int) < (n1 : Int) := by omega
   have q1 : IntKind.i64.wrap (k : Int) = (k : Int) := IntWalk.i64_in _ (by omega)
   have HB1 := Lib.hid hbe.out.drew
   clear hx hy hr1 hr2 hxo hyo hxy
   go_wp2_with fail
   refine wp_region_held_drew (S := fun w' => w'.rangeAt b1 (o1 + k * 32) (x.map (Value.int .u8)) ∧ w'.rangeAt b2 (o2 + k * 32) (y.map (Value.int .u8))) (by kernel_rfl) ⟨HX.out, HY.out⟩ (fun hHeld => ?_)
   refine zw 0 rfl (v := ?_) ?_ ?_; rotate_left
   ·intro w' hSw; go_simp; try with_reducible rfl
   try simp only [Act.put, zA, zB, zC, zD, zE, zF]
   refine zw 1 rfl (v := ?_) ?_ ?_; rotate_left
   ·intro w' hSw; go_simp; try with_reducible rfl
   try simp only [Act.put, zA, zB, zC, zD, zE, zF]
   refine zw 2 rfl (v := ?_) ?_ ?_; rotate_left
   ·intro w' hSw; go_simp; try with_reducible rfl
   try simp only [Act.put, zA, zB, zC, zD, zE, zF]
   refine' zk 3 rfl (v := _) (yieldsIf_load_mid (by rfl) _ _ rfl _ _ rfl _ _ ?hS3n4 Tryz.underlying46 rfl HIX.out) ?rest3n4
   case hS3n4 =>
    intro w' hSw
    exact hSw.1
   try simp only [Act.put, zA, zB, zC, zD, zE, zF]
   refine zw 4 rfl (v := ?_) ?_ ?_; rotate_left
   ·intro w' hSw; go_simp; try with_reducible rfl
   try simp only [Act.put, zA, zB, zC, zD, zE, zF]
   refine zw 5 rfl (v := ?_) ?_ ?_; rotate_left
   ·intro w' hSw; go_simp; try with_reducible rfl
   try simp only [Act.put, zA, zB, zC, zD, zE, zF]
   refine zw 6 rfl (v := ?_) ?_ ?_; rotate_left
   ·intro w' hSw; go_simp; try with_reducible rfl
   try simp only [Act.put, zA, zB, zC, zD, zE, zF]
   refine' zk 7 rfl (v := _) (yieldsIf_load_mid (by rfl) _ _ rfl _ _ rfl _ _ ?hS7n8 Tryz.underlying46 rfl HIY.out) ?rest7n8
   case hS7n8 =>
    intro w' hSw
    exact hSw.2
   try simp only [Act.put, zA, zB, zC, zD, zE, zF]
   refine zw 8 rfl (v := ?_) ?_ ?_; rotate_left
   ·intro w' hSw; go_simp; try with_reducible rfl
   try simp only [Act.put, zA, zB, zC, zD, zE, zF]
   refine zd ?_ _
   clear hHeld
   go_wp2_with fail
   go_roundw
   case rel => exact ⟨k + 1, by omega, by go_num, HB1⟩
   case measure => simp [intOf]; omega
  ·obtain rfl : k = n1 := by omega
   have hd : decide ((k : Int) < (k : Int)) = false := by simp
   go_wp2_with fail
   go_ret
   exact ⟨rfl, hbe.out⟩
end Go.Proofs.YtjeiiabpdoelpaaGreatDoor
