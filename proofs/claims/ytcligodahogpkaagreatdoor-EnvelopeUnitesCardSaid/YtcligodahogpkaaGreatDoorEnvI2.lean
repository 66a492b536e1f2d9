/-
  Envelopes: slices.Insert at signatures, and where its row lies.
-/
import Derived.Test.YtcligodahogpkaaGreatDoorZip
import Derived.Test.YtcligodahogpkaaGreatDoorH5
import Derived.Maps.AppendAt
set_option maxRecDepth 100000
set_option maxHeartbeats 8000000
namespace Go.Proofs.YtcligodahogpkaaGreatDoor
open Go.RowKit Go.Proofs.YtcligodahogpkaaGreatDoor.One
def AtW (w : World) (v v' : Value) : Prop := v'.ownBlock = v.ownBlock ∨ v'.ownBlock = some w.heap.size
theorem hO {w : World} {ops : Array Oper} {rest : List Oper} {o : Oper} {a : Act} {Q : Exit → Act → World → Prop} (hgd : o.guard = none) (s x : Operand)
 (ho : o.op = .call { callee := .builtin .append, args := #[s, x], argTypes := #[23, 23] }) (base : Nat) (v : Value) (l : List Sg) (n : Nat) (hn : n = l.length) (hs : a.eval s = v) (hown : OwnG w base v l)
 (g : Nat) (y : Sg) (hx : a.eval x = .slice (some ⟨g, 0, none⟩) 1 1) (hy : GB w g y) (hok : OkG y) (hlen : n ≤ 1000000) (hbase : base ≤ w.heap.size)
 (h : ∀ sp cap w', Hid (OwnG w' base (.slice sp (n + 1) cap) (l ++ [y])) → Hid (Below base w w') → Hid (w.grownBy w' v.ownBlock) → Hid ((Value.slice sp (n + 1) cap).ownBlock = v.ownBlock ∨ (Value.slice sp (n + 1) cap).ownBlock = some w.heap.size) → wpList Tryz.prog ops Q rest (a.put o.dst (.slice sp (n + 1) cap)) w') : wpList Tryz.prog ops Q (o :: rest) a w := by
 subst hn
 obtain ⟨i0, hi0, hz0, hz1, hz2⟩ := bF xW
 refine wpList_append_own_at w hgd s x _ ho base _ i0 _ 20 80 Tryz.underlying23 hi0 hz0 hz1 hz2 rfl (by decide) v l.length _ hs hown.1 ⟨g, 0, none⟩ 1 1 (bD y) hx (by rw [aG hok]) ?_ (kA y) (by unfold maxLen; omega) (by omega) hbase ?_
 ·intro j u hj
  rw [Addr.add_mid]
  exact hy.all j u hj
 ·intro v' w' h1 h2 _ h4
  obtain ⟨sp, cap, rfl⟩ := aZ h1
  refine h sp cap w' ⟨by rw [qI, List.length_append]; exact h1, fun z hz => ?_⟩ ((Below.refl base w).grown h2 hbase (bL hown.1)) h2 h4
  rcases List.mem_append.1 hz with hz | hz
  ·exact hown.2 z hz
  ·rw [List.mem_singleton.1 hz]; exact hok
theorem rQ (n : Nat) (l : List Sg) (y : Sg) (w : World) (base : Nat) (sp : Option Addr) (cap g : Nat) (hl : l.length = n) (hn : n ≤ 1000) (ho : OwnG w base (.slice sp n cap) l) (hg : GB w g y) (hy : OkG y) (hbase : base ≤ w.heap.size) :
 Calls Tryz.prog 27 #[.slice sp n cap, .int .i64 (n : Int), .slice (some ⟨g, 0, none⟩) 1 1] w fun e w' => ∃ sp' cap', e = .returned (.slice sp' (n + 1) cap') ∧ Hid (OwnG w' base (.slice sp' (n + 1) cap') (l ++ [y])) ∧ Below base w w' ∧ Hid (w.grownBy w' (Value.slice sp n cap).ownBlock) ∧ AtW w (.slice sp n cap) (.slice sp' (n + 1) cap') := by
 have HO := zh ho; have HG := zh hg; have HY := zh hy; have HL := zh hl
 clear ho hg hy hl
 have hz := yZ
 have p1 : (0 : Int) ≤ (n : Int) := by omega
 by_cases hcn : cap = n
 ·subst hcn
  go_enter Tryz.func27, Tryz.ntmps27
  go_wp2_with (at_builtin; refine hO rfl (.tmp 23) (.tmp 24) rfl base (.slice sp cap cap) l cap HL.out.symm rfl HO.out g y rfl HG.out HY.out (by omega) hbase ?_; intro sp2 cap2 w2 HO2 HB2 HG2 HA2)
  go_ret
  exact ⟨sp2, cap2, rfl, HO2, HB2.out, HG2, HA2.out⟩
 ·go_enter Tryz.func27, Tryz.ntmps27
  go_wp2_with (at_builtin; refine hO rfl (.tmp 23) (.tmp 24) rfl base (.slice sp n cap) l n HL.out.symm rfl HO.out g y rfl HG.out HY.out (by omega) hbase ?_; intro sp2 cap2 w2 HO2 HB2 HG2 HA2)
  go_ret
  exact ⟨sp2, cap2, rfl, HO2, HB2.out, HG2, HA2.out⟩
def InsA (n : Nat) : Prop := ∀ (k : Nat) (l : List Sg) (y : Sg) (w : World) (base : Nat) (sp : Option Addr) (cap g : Nat), k ≤ n → l.length = n → n ≤ 1000 → OwnG w base (.slice sp n cap) l → GB w g y → OkG y → base ≤ w.heap.size → (∀ k, (Value.slice sp n cap).ownBlock = some k → k < g) →
 Calls Tryz.prog 27 #[.slice sp n cap, .int .i64 (k : Int), .slice (some ⟨g, 0, none⟩) 1 1] w fun e w' => ∃ sp' cap', e = .returned (.slice sp' (n + 1) cap') ∧ Hid (OwnG w' base (.slice sp' (n + 1) cap') (l.take k ++ y :: l.drop k)) ∧ Below base w w' ∧ Hid (w.grownBy w' (Value.slice sp n cap).ownBlock) ∧ AtW w (.slice sp n cap) (.slice sp' (n + 1) cap')
theorem GD (n : Nat) : InsA n := by
 intro k l y w base sp cap g hk hl hn ho hg hy hbase hlt
 by_cases hkn : k = n
 ·subst hkn
  refine (rQ k l y w base sp cap g hl hn ho hg hy hbase).mono ?_
  rintro e w' ⟨sp', cap', rfl, ho', hb, hgr, hat⟩
  exact ⟨sp', cap', rfl, by rw [List.take_of_length_le (by omega), List.drop_eq_nil_of_le (by omega)]; exact ho', hb, hgr, hat⟩
 ·have hkl : k < n := by omega
  obtain ⟨g0, rfl⟩ : ∃ g0, sp = some ⟨g0, 0, none⟩ := by
   obtain ⟨_, ⟨e, e0⟩ | ⟨g0, c, cur, e, _⟩⟩ := ho.1
   ·omega
   ·injection e with e1 e2 e3
    exact ⟨g0, e1⟩
  have hg0 : g0 < g := hlt g0 rfl
  by_cases hcap : n + 1 ≤ cap
  ·refine (oX n k l y w base g0 cap g hl hkl hn hcap ho hg hy (by omega)).mono ?_
   rintro e w' ⟨rfl, rfl⟩
   have h := xL hl hkl hcap ho hy
   exact ⟨_, _, rfl, h.1, eX h.2.1 h.2.2 hbase, h.2.1, .inl rfl⟩
  ·refine (oY n k l y w base g0 cap g hl hkl hn (by omega) ho hg hy).mono ?_
   rintro e w' ⟨G, hG, hGm, rfl, rfl⟩
   have h := xZ (w := w) hl hkl hG hGm ho.2 hy hbase
   exact ⟨_, _, rfl, h.1, h.2.mono hbase, ⟨h.2.os, h.2.tape, h.2.output, h.2.size, fun j hj _ => h.2.block j hj⟩, .inr rfl⟩
end Go.Proofs.YtcligodahogpkaaGreatDoor
