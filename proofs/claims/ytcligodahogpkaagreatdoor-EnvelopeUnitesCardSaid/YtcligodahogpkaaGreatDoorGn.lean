/-
  Plain: the digits of a digest, and why of two digests each has a greater digit (no program is named here but for its name space).
-/
import Derived.Test.YtcligodahogpkaaGreatDoorZip
import Derived.Test.YtcligodahogpkaaGreatDoorGm
import Derived.RangeFuncNested
import Derived.OwnWalkIn
import Derived.TacticsInMore
import Derived.LoopNIn
import Derived.LoopIn
import Derived.RangeFuncFrom
import Derived.Shelf.Abstract
import Derived.RangeFuncBox
import Derived.RangeFuncCalls
import Derived.RangeFuncLeaves
import Derived.RangeFuncKeeps
import Derived.Deep.RegionHeld3
import Derived.IntWalk
set_option maxRecDepth 100000
set_option maxHeartbeats 8000000
namespace Go.Proofs.YtcligodahogpkaaGreatDoor.One
open Go
def eH (x : Int) : List Int := [x / 64 % 4, x / 16 % 4, x / 4 % 4, x % 4]
def lK : List Int → Int
 | [] => 0
 | x :: t => (3 - x) + lK t
def nN (d : List Int) : List Int := (d.take 16).flatMap eH
def digs (d : List Int) : List Int := nN d ++ eH (lK (nN d))
theorem vZ (a b : List Int) : lK (a ++ b) = lK a + lK b := by
 induction a with
 | nil => simp [lK]
 | cons x t ih => simp only [List.cons_append, lK, ih]; omega
theorem dO (x : Int) : (eH x).length = 4 := rfl
theorem jE (l : List Int) : (l.flatMap eH).length = 4 * l.length := by
 induction l with
 | nil => rfl
 | cons x t ih => rw [List.flatMap_cons, List.length_append, ih, dO, List.length_cons]; omega
theorem fQ {d : List Int} (h : d.length = 32) : (nN d).length = 64 := by
 unfold nN; rw [jE, List.length_take, h]; rfl
theorem dE {d : List Int} (h : d.length = 32) : (digs d).length = 68 := by
 unfold digs; rw [List.length_append, fQ h, dO]
theorem mR {x y : Int} (h : y ∈ eH x) : 0 ≤ y ∧ y ≤ 3 := by
 simp only [eH, List.mem_cons, List.not_mem_nil, or_false] at h
 rcases h with rfl | rfl | rfl | rfl <;> omega
theorem kE {l : List Int} {y : Int} (h : y ∈ l.flatMap eH) : 0 ≤ y ∧ y ≤ 3 := by
 obtain ⟨x, _, hy⟩ := List.mem_flatMap.1 h
 exact mR hy
theorem AA {d : List Int} {y : Int} (h : y ∈ digs d) : 0 ≤ y ∧ y ≤ 3 := by
 unfold digs at h
 rcases List.mem_append.1 h with h | h
 ·exact kE h
 ·exact mR h
theorem mK {l : List Int} (h : ∀ y ∈ l, 0 ≤ y ∧ y ≤ 3) : 0 ≤ lK l ∧ lK l ≤ 3 * l.length := by
 induction l with
 | nil => simp [lK]
 | cons x t ih =>
   have h1 := h x (by simp)
   have h2 := ih (fun y hy => h y (by simp [hy]))
   simp only [lK, List.length_cons]; omega
theorem IZ {d : List Int} (h : d.length = 32) : 0 ≤ lK (nN d) ∧ lK (nN d) ≤ 192 := by
 have := mK (l := nN d) (fun y hy => kE hy)
 rw [fQ h] at this; omega
end Go.Proofs.YtcligodahogpkaaGreatDoor.One
namespace Go.Proofs.YtcligodahogpkaaGreatDoor
open Go.RowKit Go.Proofs.YtcligodahogpkaaGreatDoor.One
def nv (l : List Int) : List Value := l.map (Value.int .i64)
def OwnN (w : World) (base : Nat) (v : Value) (l : List Int) : Prop := w.ownsRow base 3 1 v l.length (nv l)
theorem aH {w : World} {g j : Nat} {L : List Value} {t : TypeId} {fr : Nat × Nat} {v : Value} (hg : w.heap[g]? = some (.cells L.toArray t fr)) (hv : L[j]? = some v) : w.cell? ⟨g, j, none⟩ = some v := by
 rw [cell_of_row w g j _ t fr hg]; simpa using hv
theorem vV (l : List Int) (x : Int) : nv (l ++ [x]) = nv l ++ [.int .i64 x] := by simp [nv]
theorem xV : (Tryz.prog.info? 3).map (fun i => (i.zero, i.size, i.bytes)) = some (some (.int .i64 0), 1, 8) := by kernel_rfl
theorem bF {i : Option TypeInfo} {z : Option Value} {s b : Nat} (h : i.map (fun i => (i.zero, i.size, i.bytes)) = some (z, s, b)) : ∃ i0, i = some i0 ∧ i0.zero = z ∧ i0.size = s ∧ i0.bytes = b := by
 cases i with
 | none => cases h
 | some i0 => simp at h; exact ⟨i0, rfl, h.1, h.2.1, h.2.2⟩
theorem OwnN.below {w w' : World} {base : Nat} {v : Value} {l : List Int} (h : OwnN w base v l) (hb : Below w.heap.size w w') : OwnN w' base v l := eN h hb
theorem OwnN.base {w : World} {base base' : Nat} {v : Value} {l : List Int} (h : OwnN w base v l) (hb : base' ≤ base) : OwnN w base' v l := by
 obtain ⟨h0, h | ⟨g, cap, cur, rfl, hg, h1, h2, h3, h4, h5⟩⟩ := h
 ·exact ⟨h0, .inl h⟩
 ·exact ⟨h0, .inr ⟨g, cap, cur, rfl, by omega, h1, h2, h3, h4, h5⟩⟩
theorem pH (w : World) (x : Int) : ∀ j u, [Value.int .i64 x][j]? = some u → (w.alloc (.cells #[.int .i64 x] 3)).cell? ((⟨w.heap.size, 0, none⟩ : Addr).add j) = some u := by
 intro j u hj
 rw [Addr.add_mid, Nat.zero_add, cell_of_row _ w.heap.size j _ _ (0, 0) (heap_alloc_new w _)]
 simpa using hj
section
variable {w : World} {ops : Array Oper} {rest : List Oper} {o : Oper} {a : Act} {Q : Exit → Act → World → Prop}
theorem cA (hgd : o.guard = none) (s x : Operand) (ho : o.op = .call { callee := .builtin .append, args := #[s, x], argTypes := #[158, 158] })
 (base : Nat) (v : Value) (l : List Int) (hs : a.eval s = v) (hown : OwnN w base v l) (y : Int) (hx : a.eval x = .slice (some ⟨w.heap.size, 0, none⟩) 1 1)
 (hlen : l.length ≤ 1000000000) (hbase : base ≤ w.heap.size)
 (h : ∀ v' w', Hid (OwnN w' base v' (l ++ [y])) → Hid (Below base w w') → wpList Tryz.prog ops Q rest (a.put o.dst v') w') : wpList Tryz.prog ops Q (o :: rest) a (w.alloc (.cells #[.int .i64 y] 3)) := by
 obtain ⟨i0, hi0, hz0, hz1, hz2⟩ := bF xV
 refine wpList_append_own _ hgd s x _ ho base _ i0 _ 1 8 Tryz.underlying158 hi0 hz0 hz1 hz2 rfl (by decide) v l.length _ hs (World.ownsRow.alloc hown _) ⟨w.heap.size, 0, none⟩ 1 1 [.int .i64 y] hx rfl (pH w y) (by intro u hu; simp at hu; subst hu; rfl) (by unfold maxLen; omega) (by omega) (by simp; omega) ?_
 intro v' w' h1 h2 _
 refine h v' w' ?_ ?_
 ·show w'.ownsRow _ _ _ _ _ _
  rw [vV, List.length_append]; exact h1
 ·exact ((Below.refl base w).alloc hbase _).grown h2 (by simp; omega) (bL hown)
end
theorem sF (x : Int) (h : 0 ≤ x ∧ x ≤ 255) : bits .and .u8 x 3 = x % 4 := by
 obtain ⟨n, rfl⟩ : ∃ n : Nat, x = n := ⟨x.toNat, by omega⟩
 have hn : n < 256 := by omega
 exact (by decide +kernel : ∀ n : Fin 256, bits .and .u8 ((n.val : Nat) : Int) 3 = ((n.val : Nat) : Int) % 4) ⟨n, hn⟩
theorem iC (x : Int) (h : 0 ≤ x ∧ x ≤ 255) : bits .and .i64 x 3 = x % 4 := by
 obtain ⟨n, rfl⟩ : ∃ n : Nat, x = n := ⟨x.toNat, by omega⟩
 have hn : n < 256 := by omega
 exact (by decide +kernel : ∀ n : Fin 256, bits .and .i64 ((n.val : Nat) : Int) 3 = ((n.val : Nat) : Int) % 4) ⟨n, hn⟩
theorem uJ (d : List Int) (k : Nat) (h : k < d.length) : (d.take (k + 1)).flatMap eH = (d.take k).flatMap eH ++ eH (d.getD k 0) := by
 rw [List.take_succ_eq_append_getElem h, List.flatMap_append, List.flatMap_cons, List.flatMap_nil, List.append_nil, List.getD_eq_getElem?_getD, List.getElem?_eq_getElem h]; rfl
def dgt (x : Int) (j : Nat) : Int := (eH x).getD j 0
theorem pC (x : Int) (j : Nat) (h : j < 4) : (eH x).take (j + 1) = (eH x).take j ++ [dgt x j] := by
 rw [List.take_succ_eq_append_getElem (by rw [dO]; exact h)]; unfold dgt
 rw [List.getD_eq_getElem?_getD, List.getElem?_eq_getElem (by rw [dO]; exact h)]; rfl
theorem tY (l : List Int) (x : Int) : lK (l ++ [x]) = lK l + 3 - x := by rw [vZ]; simp [lK]; omega
theorem OQ {d : List Int} (h : D32 d) {k : Nat} (hk : k < 32) : 0 ≤ d.getD k 0 ∧ d.getD k 0 ≤ 255 := by
 have hl := h.1
 have e : d.getD k 0 = d[k]'(by omega) := by rw [List.getD_eq_getElem?_getD, List.getElem?_eq_getElem (by omega)]; rfl
 have := h.2 _ (List.getElem_mem (show k < d.length by omega))
 rw [e]; omega
theorem dgt0 (x : Int) : dgt x 0 = x / 64 % 4 := rfl
theorem dgt1 (x : Int) : dgt x 1 = x / 16 % 4 := rfl
theorem dgt2 (x : Int) : dgt x 2 = x / 4 % 4 := rfl
theorem dgt3 (x : Int) : dgt x 3 = x % 4 := rfl
theorem pD (x : Int) (j : Nat) (h : j < 4) : 0 ≤ dgt x j ∧ dgt x j ≤ 3 := by
 rcases (by omega : j = 0 ∨ j = 1 ∨ j = 2 ∨ j = 3) with rfl | rfl | rfl | rfl
 ·rw [dgt0]; omega
 ·rw [dgt1]; omega
 ·rw [dgt2]; omega
 ·rw [dgt3]; omega
theorem vG {d : List Int} (h : D32 d) {k : Nat} (hk : k < 16) : ((d.take 16).take (k + 1)).flatMap eH = ((d.take 16).take k).flatMap eH ++ eH (d.getD k 0) := by
 have hl := h.1
 have e := uJ (d.take 16) k (by rw [List.length_take]; omega)
 rw [e, List.getD_eq_getElem?_getD, List.getD_eq_getElem?_getD, List.getElem?_take, if_pos hk]
theorem CM {l : List Int} (h : l.length ≤ 16) (j : Nat) (x : Int) : 0 ≤ lK (l.flatMap eH ++ (eH x).take j) ∧ lK (l.flatMap eH ++ (eH x).take j) ≤ 204 := by
 have h1 := mK (l := l.flatMap eH ++ (eH x).take j) (fun y hy => by
  rcases List.mem_append.1 hy with hy | hy
  ·exact kE hy
  ·exact mR (List.mem_of_mem_take hy))
 rw [List.length_append, jE, List.length_take, dO] at h1
 omega
theorem vT (d : List Int) (hd : D32 d) (w : World) :
 Calls Tryz.prog 125 #[.agg (dgA d)] w fun e w' => ∃ sp cap, e = .returned (.slice sp 68 cap) ∧ OwnN w' w.heap.size (.slice sp 68 cap) (digs d) ∧ Below w.heap.size w w' := by
 have HD := zh hd; clear hd
 have HN := zh (heap_alloc_new w (.cells (dgA d) 43))
 have HB := zh ((Below.refl w.heap.size w).alloc (Nat.le_refl _) (.cells (dgA d) 43))
 have HZ := zh (World.size_alloc w (.cells (dgA d) 43))
 go_enter Tryz.func125, Tryz.ntmps125
 go_wp2_with fail
 generalize hw0 : World.alloc w _ = w0
 have HR0 : Hid (w0.heap[w.heap.size]? = some (.cells (dgA d) 43 (0, 0))) := by rw [← hw0]; exact HN
 have hb0 : Below w.heap.size w w0 := by rw [← hw0]; exact HB.out
 have hs0 : w.heap.size < w0.heap.size := by have := HZ.out; rw [hw0] at this; omega
 clear hw0 HN HB HZ
 generalize hbz : w.heap.size = b0 at *
 have HBZ := zh hbz; clear hbz
 go_loopw [3, 4, 5] (fun v s i wr => ∃ k : Nat, k ≤ 16 ∧ i = .int .i64 k ∧ s = .int .i64 (lK (((d.take 16).take k).flatMap eH)) ∧ Hid (OwnN wr (b0 + 1) v (((d.take 16).take k).flatMap eH)) ∧ Hid (Below (b0 + 1) w0 wr)) (fun _ _ i _ => 16 - (intOf i).toNat)
 case atStart => exact ⟨0, by omega, rfl, rfl, World.ownsRow_nil _ _ _ _, Below.refl _ _⟩
 case round =>
  rename_i v _ _
  obtain ⟨k, hk, rfl, rfl, HO, HBL⟩ := hrel
  by_cases hlt : k < 16
  ·have HC0 := zh (show w0.cell? ⟨b0, k, none⟩ = some (.int .u8 (d.getD k 0)) from aH HR0.out (pB d k (by have := HD.out.1; omega)))
   have hx := OQ HD.out (show k < 32 by omega)
   have HTK := zh (vG HD.out hlt)
   have HLT : Hid (((d.take 16).take k).length ≤ 16) := by show _ ≤ _; rw [List.length_take, List.length_take]; omega
   generalize d.getD k 0 = x at *
   generalize (d.take 16).take k = T at *
   have hd1 : decide ((k : Int) < 16) = true := by simp; omega
   have p1 : (0 : Int) ≤ (k : Int) := by omega
   have p2 : (k : Int) < 16 := by omega
   go_wp2_with fail
   go_loopw [3, 4, 6] (fun v s i w2 => ∃ j : Nat, j ≤ 4 ∧ i = .int .i64 (3 - (j : Int)) ∧ s = .int .i64 (lK (T.flatMap eH ++ (eH x).take j)) ∧ Hid (OwnN w2 (b0 + 1) v (T.flatMap eH ++ (eH x).take j)) ∧ Hid (Below (b0 + 1) w0 w2)) (fun _ _ i _ => (intOf i + 1).toNat)
   case atStart => exact ⟨0, by omega, rfl, by simp, by simpa using HO, HBL⟩
   case round =>
    rename_i v2 _ _
    obtain ⟨j, hj, rfl, rfl, HO2, HBL2⟩ := hrel
    have hc2 : wr.cell? ⟨b0, k, none⟩ = some (.int .u8 x) := (HBL2.out.cell (p := ⟨b0, k, none⟩) (by show b0 < b0 + 1; omega)).trans HC0.out
    have HL2 := zh (CM HLT.out j x)
    have hlen : Hid ((T.flatMap eH ++ (eH x).take j).length ≤ 1000000000) := by
     show _ ≤ _; have := HLT.out; rw [List.length_append, jE, List.length_take, dO]; omega
    have hbs2 : b0 + 1 ≤ wr.heap.size := by have := HBL2.out.size; omega
    by_cases hj4 : j < 4
    ·have HSN := zh (pC x j hj4)
     have HDR := zh (pD x j hj4)
     have hd2 : decide (3 - (j : Int) ≥ 0) = true := by simp; omega
     have HS2 := zh (tY (T.flatMap eH ++ (eH x).take j) (dgt x j))
     generalize hs : lK (T.flatMap eH ++ (eH x).take j) = s at *
     have hs1 := HL2.out.1
     have hs2 := HL2.out.2
     rcases (by omega : j = 0 ∨ j = 1 ∨ j = 2 ∨ j = 3) with rfl | rfl | rfl | rfl
     ·have hb : bits .and .i64 (x / 64) 3 = dgt x 0 := (iC _ (by omega)).trans rfl
      have d1 := HDR.out.1
      have d2 := HDR.out.2
      go_wp2_with (at_builtin; refine cA rfl (.tmp 26) (.tmp 28) rfl (b0 + 1) _ _ rfl HO2.out (dgt x 0) rfl hlen.out hbs2 ?_; intro v3 w3 HO3 HB3)
      go_roundw
      case rel => exact ⟨1, by omega, by go_num, by rw [HSN.out, ← List.append_assoc, HS2.out], by rw [HSN.out, ← List.append_assoc]; exact HO3, HBL2.out.trans (HB3.out.mono (by omega))⟩
      case measure => simp [intOf]
     ·have hb : bits .and .i64 (x / 16) 3 = dgt x 1 := (iC _ (by omega)).trans rfl
      have d1 := HDR.out.1
      have d2 := HDR.out.2
      go_wp2_with (at_builtin; refine cA rfl (.tmp 26) (.tmp 28) rfl (b0 + 1) _ _ rfl HO2.out (dgt x 1) rfl hlen.out hbs2 ?_; intro v3 w3 HO3 HB3)
      go_roundw
      case rel => exact ⟨2, by omega, by go_num, by rw [HSN.out, ← List.append_assoc, HS2.out], by rw [HSN.out, ← List.append_assoc]; exact HO3, HBL2.out.trans (HB3.out.mono (by omega))⟩
      case measure => simp [intOf]
     ·have hb : bits .and .i64 (x / 4) 3 = dgt x 2 := (iC _ (by omega)).trans rfl
      have d1 := HDR.out.1
      have d2 := HDR.out.2
      go_wp2_with (at_builtin; refine cA rfl (.tmp 26) (.tmp 28) rfl (b0 + 1) _ _ rfl HO2.out (dgt x 2) rfl hlen.out hbs2 ?_; intro v3 w3 HO3 HB3)
      go_roundw
      case rel => exact ⟨3, by omega, by go_num, by rw [HSN.out, ← List.append_assoc, HS2.out], by rw [HSN.out, ← List.append_assoc]; exact HO3, HBL2.out.trans (HB3.out.mono (by omega))⟩
      case measure => simp [intOf]
     ·have hb : bits .and .i64 (x) 3 = dgt x 3 := (iC _ (by omega)).trans rfl
      have d1 := HDR.out.1
      have d2 := HDR.out.2
      go_wp2_with (at_builtin; refine cA rfl (.tmp 26) (.tmp 28) rfl (b0 + 1) _ _ rfl HO2.out (dgt x 3) rfl hlen.out hbs2 ?_; intro v3 w3 HO3 HB3)
      go_roundw
      case rel => exact ⟨4, by omega, by go_num, by rw [HSN.out, ← List.append_assoc, HS2.out], by rw [HSN.out, ← List.append_assoc]; exact HO3, HBL2.out.trans (HB3.out.mono (by omega))⟩
      case measure => simp [intOf]
    ·obtain rfl : j = 4 := by omega
     have hd2 : decide (3 - ((4 : Nat) : Int) ≥ 0) = false := by simp
     have HF := zh (show (eH x).take 4 = eH x from rfl)
     go_wp2
     go_roundw
     case rel => exact ⟨k + 1, by omega, by go_num, by rw [HTK.out, HF.out], by rw [HTK.out, ← HF.out]; exact HO2, HBL2⟩
     case measure => simp [intOf]; omega
  ·obtain rfl : k = 16 := by omega
   have HT := zh (show ((d.take 16).take 16).flatMap eH = nN d by rw [List.take_take]; rfl)
   have hl0 := IZ HD.out.1
   rw [HT.out] at HO
   rw [HT.out]
   have HX : Hid (digs d = nN d ++ eH (lK (nN d))) := rfl
   have HL64 := zh (fQ HD.out.1)
   generalize nN d = T at *
   generalize hs : lK T = s at *
   have HS := zh hs; clear hs HT
   simp only [show ((16 : Nat) : Int) = 16 from rfl]
   go_wp2_with fail
   go_loopw [3, 8] (fun v i w2 => ∃ j : Nat, j ≤ 4 ∧ i = .int .i64 (3 - (j : Int)) ∧ Hid (OwnN w2 (b0 + 1) v (T ++ (eH s).take j)) ∧ Hid (Below (b0 + 1) w0 w2)) (fun _ i _ => (intOf i + 1).toNat)
   case atStart => exact ⟨0, by omega, rfl, by simpa using HO, HBL⟩
   case round =>
    rename_i v2 _
    obtain ⟨j, hj, rfl, HO2, HBL2⟩ := hrel
    have hlen : Hid ((T ++ (eH s).take j).length ≤ 1000000000) := by
     show _ ≤ _; have := HL64.out; rw [List.length_append, List.length_take, dO]; omega
    have hbs2 : b0 + 1 ≤ wr.heap.size := by have := HBL2.out.size; omega
    by_cases hj4 : j < 4
    ·have HSN := zh (pC s j hj4)
     have HDR := zh (pD s j hj4)
     have hd2 : decide (3 - (j : Int) ≥ 0) = true := by simp; omega
     rcases (by omega : j = 0 ∨ j = 1 ∨ j = 2 ∨ j = 3) with rfl | rfl | rfl | rfl
     ·have hb : bits .and .i64 (s / 64) 3 = dgt s 0 := (iC _ (by omega)).trans rfl
      have d1 := HDR.out.1
      have d2 := HDR.out.2
      go_wp2_with (at_builtin; refine cA rfl (.tmp 38) (.tmp 45) rfl (b0 + 1) _ _ rfl HO2.out (dgt s 0) rfl hlen.out hbs2 ?_; intro v3 w3 HO3 HB3)
      go_roundw
      case rel => exact ⟨1, by omega, by go_num, by rw [HSN.out, ← List.append_assoc]; exact HO3, HBL2.out.trans (HB3.out.mono (by omega))⟩
      case measure => simp [intOf]
     ·have hb : bits .and .i64 (s / 16) 3 = dgt s 1 := (iC _ (by omega)).trans rfl
      have d1 := HDR.out.1
      have d2 := HDR.out.2
      go_wp2_with (at_builtin; refine cA rfl (.tmp 38) (.tmp 45) rfl (b0 + 1) _ _ rfl HO2.out (dgt s 1) rfl hlen.out hbs2 ?_; intro v3 w3 HO3 HB3)
      go_roundw
      case rel => exact ⟨2, by omega, by go_num, by rw [HSN.out, ← List.append_assoc]; exact HO3, HBL2.out.trans (HB3.out.mono (by omega))⟩
      case measure => simp [intOf]
     ·have hb : bits .and .i64 (s / 4) 3 = dgt s 2 := (iC _ (by omega)).trans rfl
      have d1 := HDR.out.1
      have d2 := HDR.out.2
      go_wp2_with (at_builtin; refine cA rfl (.tmp 38) (.tmp 45) rfl (b0 + 1) _ _ rfl HO2.out (dgt s 2) rfl hlen.out hbs2 ?_; intro v3 w3 HO3 HB3)
      go_roundw
      case rel => exact ⟨3, by omega, by go_num, by rw [HSN.out, ← List.append_assoc]; exact HO3, HBL2.out.trans (HB3.out.mono (by omega))⟩
      case measure => simp [intOf]
     ·have hb : bits .and .i64 (s) 3 = dgt s 3 := (iC _ (by omega)).trans rfl
      have d1 := HDR.out.1
      have d2 := HDR.out.2
      go_wp2_with (at_builtin; refine cA rfl (.tmp 38) (.tmp 45) rfl (b0 + 1) _ _ rfl HO2.out (dgt s 3) rfl hlen.out hbs2 ?_; intro v3 w3 HO3 HB3)
      go_roundw
      case rel => exact ⟨4, by omega, by go_num, by rw [HSN.out, ← List.append_assoc]; exact HO3, HBL2.out.trans (HB3.out.mono (by omega))⟩
      case measure => simp [intOf]
    ·obtain rfl : j = 4 := by omega
     have hd2 : decide (3 - ((4 : Nat) : Int) ≥ 0) = false := by simp
     have HF := zh (show (eH s).take 4 = eH s from rfl)
     obtain ⟨sp, cap, rfl⟩ := aZ HO2.out
     have HN : Hid ((T ++ (eH s).take 4).length = 68) := by
      show _ = _; have := HL64.out; rw [List.length_append, List.length_take, dO]; omega
     rw [HN.out]
     go_wp2_with fail
     go_ret
     refine ⟨sp, cap, rfl, ?_, ?_⟩
     ·rw [HX.out, ← HF.out]; have := HO2.out; rw [HN.out] at this
      rw [HBZ.out]; exact this.base (by omega)
     ·rw [HBZ.out]; exact hb0.trans (HBL2.out.mono (by omega))
end Go.Proofs.YtcligodahogpkaaGreatDoor
namespace Go.Proofs.YtcligodahogpkaaGreatDoor
open Go.RowKit Go.Shelf Go.Proofs.YtcligodahogpkaaGreatDoor.One
attribute [local go_sem] Oper.semAt_some
structure BfIn (w : World) (ba bb off n cap : Nat) (l : List Int) : Prop where
 pa : w.cell? ⟨ba, 0, none⟩ = some (.slice (some ⟨bb, off, none⟩) n cap)
 len : l.length = n
 byt : ∀ x ∈ l, 0 ≤ x ∧ x < 256
 cells : ∀ j, j < n → w.cell? ⟨bb, off + j, none⟩ = some (.int .u8 (l.getD j 0))
def Keep2 (ba bb : Nat) (W W' : World) : Prop := W.heap.size ≤ W'.heap.size ∧ W'.heap[ba]? = W.heap[ba]? ∧ W'.heap[bb]? = W.heap[bb]?
theorem Keep2.trans {ba bb : Nat} {X Y Z : World} (h : Keep2 ba bb X Y) (k : Keep2 ba bb Y Z) : Keep2 ba bb X Z := ⟨Nat.le_trans h.1 k.1, k.2.1.trans h.2.1, k.2.2.trans h.2.2⟩
theorem Keep2.of_below {ba bb M : Nat} {X Y : World} (h : Below M X Y) (h2 : ba < M) (h3 : bb < M) : Keep2 ba bb X Y := ⟨h.size, h.block _ h2, h.block _ h3⟩
theorem BfIn.keep {w w' : World} {ba bb off n cap : Nat} {l : List Int} (h : BfIn w ba bb off n cap l) (hk : Keep2 ba bb w w') : BfIn w' ba bb off n cap l :=
 ⟨(World.cell?_of_block (a := ⟨ba, 0, none⟩) hk.2.1).trans h.pa, h.len, h.byt, fun j hj => (World.cell?_of_block (a := ⟨bb, off + j, none⟩) hk.2.2).trans (h.cells j hj)⟩
def ON (x : Int) : Array Value := #[.int .i64 x]
theorem LO {l : List Int} {i j : Nat} (hi : i < l.length) (hj : j < 4) (x : Int) : ((l.take i).flatMap eH ++ (eH x).take j).length < 4 * l.length := by
 rw [List.length_append, jE, List.length_take, List.length_take, dO]; omega
theorem LN (n l ba bb off na ca : Nat) (a : List Int) (hn : 1 ≤ n) (hna : na ≤ 1000000) (J Jx : List Int → World → Prop) (W0 : World)
 (hba : ba < W0.heap.size) (hbb : bb < W0.heap.size)
 (hY : ∀ pre x W, J pre W → pre.length < 4 * a.length → YieldAt Fence.wide (n - 1) Tryz.prog l (ON x) W fun e W' => (e = .returned (.bool true) ∧ J (pre ++ [x]) W' ∧ Keep2 ba bb W W') ∨ (e = .returned (.bool false) ∧ Jx (pre ++ [x]) W'))
 (hc : BfIn W0 ba bb off na ca a) (h0 : J [] W0) :
 CallsIn Fence.wide n Tryz.prog 177 #[.func (.yield l) #[] #[], .pointer (some ⟨ba, 0, none⟩)] W0 fun e W' =>
  (∃ v, e = .returned v) ∧ ((∃ xs, xs = a.flatMap eH ∧ J xs W') ∨ (∃ pre, True ∧ Jx pre W')) := by
 have HY := zh hY
 have hpa := hc.pa
 have HC0 := zh hc
 clear hY hc
 refine callsIn_of_wp Tryz.func177 rfl trivial ?_ rfl
 simp only [Tryz.ntmps177, List.size_toArray, List.length_cons, List.length_nil, Nat.reduceAdd, Nat.reduceSub, Array.replicate_succ, Array.replicate_zero, List.push_toArray, List.append_toArray, List.nil_append, List.cons_append]
 gi_wp2_with fail
 gi_loopw [8] (fun u wr => ∃ (i : Nat), i ≤ na ∧ u = .int .i64 i ∧ Hid (J ((a.take i).flatMap eH) wr) ∧ Hid (BfIn wr ba bb off na ca a) ∧ W0.heap.size ≤ wr.heap.size) (fun u _ => na - (intOf u).toNat)
 case atStart => exact ⟨0, Nat.zero_le _, rfl, h0, HC0.out, Nat.le_refl _⟩
 case round =>
  clear h0 hpa HC0
  obtain ⟨i, hi, rfl, HJr, HC, hsz⟩ := hrel
  by_cases hia : i < na
  ·have hd1 : decide ((i : Int) < (na : Int)) = true := by simp; omega
   have p1 : (0 : Int) ≤ (i : Int) := by omega
   have p2 : (i : Int) < (na : Int) := by omega
   have hcell := HC.out.cells i hia
   have HX : Hid (0 ≤ a.getD i 0 ∧ a.getD i 0 ≤ 255) := by
    have hl := HC.out.len
    have e : a.getD i 0 = a[i]'(by omega) := by rw [List.getD_eq_getElem?_getD, List.getElem?_eq_getElem (by omega)]; rfl
    have := HC.out.byt _ (List.getElem_mem (show i < a.length by omega))
    show _ ∧ _
    rw [e]; omega
   have HSN := zh (uJ a i (by have := HC.out.len; omega))
   have HLT := zh (fun j (hj : j < 4) => LO (l := a) (i := i) (by have := HC.out.len; omega) hj (a.getD i 0))
   generalize a.getD i 0 = x at *
   generalize (a.take i).flatMap eH = P at *
   gi_wp2_with fail
   gi_loopw [5] (fun u wr => ∃ (j : Nat), j ≤ 4 ∧ u = .int .i64 (6 - 2 * (j : Int)) ∧ Hid (J (P ++ (eH x).take j) wr) ∧ Hid (BfIn wr ba bb off na ca a) ∧ W0.heap.size ≤ wr.heap.size) (fun u _ => (intOf u + 2).toNat)
   case atStart => exact ⟨0, Nat.zero_le _, rfl, by simpa using HJr, HC, hsz⟩
   case round =>
    clear HJr HC hcell hsz
    obtain ⟨j, hj, rfl, HJ2, HC2, hsz2⟩ := hrel
    by_cases hj4 : j < 4
    ·have PK := zh (pC x j hj4)
     have HDR := zh (pD x j hj4)
     have HLJ := zh (HLT.out j hj4)
     have d1 := HDR.out.1
     have d2 := HDR.out.2
     have x1 := HX.out.1
     have x2 := HX.out.2
     obtain ⟨fn, tmps, assign, body, hy, hR⟩ := HY.out (P ++ (eH x).take j) (dgt x j) wr HJ2.out HLJ.out
     simp only [ON] at hy
     have hd2 : decide (6 - 2 * (j : Int) ≥ 0) = true := by simp; omega
     have HJN := zh (show P ++ (eH x).take j ++ [dgt x j] = P ++ (eH x).take (j + 1) by rw [PK.out, List.append_assoc])
     rcases (by omega : j = 0 ∨ j = 1 ∨ j = 2 ∨ j = 3) with rfl | rfl | rfl | rfl
     ·have hb : bits .and .u8 (x / 64) 3 = dgt x 0 := (sF _ (by omega)).trans rfl
      gi_wp2_with fail
      refine hR.mono ?_
      clear hR hy
      rintro e W6 (⟨rfl, hJ6, hk6⟩ | ⟨rfl, hJx6⟩)
      ·have HJ6 := zh hJ6
       have HC6 := zh (HC2.out.keep hk6)
       have hz6 := hk6.1
       rw [HJN.out] at HJ6
       clear hJ6 hk6
       gi_wp2
       go_roundw
       case rel => exact ⟨1, by omega, by go_num, HJ6, HC6, by omega⟩
       case measure => simp [intOf]
      ·have MR := zh hJx6
       clear hJx6
       gi_wp2
       refine bodyPost_ret (results_none rfl _ _ _) rfl ?_
       exact ⟨⟨_, rfl⟩, .inr ⟨_, trivial, MR.out⟩⟩
     ·have hb : bits .and .u8 (x / 16) 3 = dgt x 1 := (sF _ (by omega)).trans rfl
      gi_wp2_with fail
      refine hR.mono ?_
      clear hR hy
      rintro e W6 (⟨rfl, hJ6, hk6⟩ | ⟨rfl, hJx6⟩)
      ·have HJ6 := zh hJ6
       have HC6 := zh (HC2.out.keep hk6)
       have hz6 := hk6.1
       rw [HJN.out] at HJ6
       clear hJ6 hk6
       gi_wp2
       go_roundw
       case rel => exact ⟨2, by omega, by go_num, HJ6, HC6, by omega⟩
       case measure => simp [intOf]
      ·have MR := zh hJx6
       clear hJx6
       gi_wp2
       refine bodyPost_ret (results_none rfl _ _ _) rfl ?_
       exact ⟨⟨_, rfl⟩, .inr ⟨_, trivial, MR.out⟩⟩
     ·have hb : bits .and .u8 (x / 4) 3 = dgt x 2 := (sF _ (by omega)).trans rfl
      gi_wp2_with fail
      refine hR.mono ?_
      clear hR hy
      rintro e W6 (⟨rfl, hJ6, hk6⟩ | ⟨rfl, hJx6⟩)
      ·have HJ6 := zh hJ6
       have HC6 := zh (HC2.out.keep hk6)
       have hz6 := hk6.1
       rw [HJN.out] at HJ6
       clear hJ6 hk6
       gi_wp2
       go_roundw
       case rel => exact ⟨3, by omega, by go_num, HJ6, HC6, by omega⟩
       case measure => simp [intOf]
      ·have MR := zh hJx6
       clear hJx6
       gi_wp2
       refine bodyPost_ret (results_none rfl _ _ _) rfl ?_
       exact ⟨⟨_, rfl⟩, .inr ⟨_, trivial, MR.out⟩⟩
     ·have hb : bits .and .u8 (x) 3 = dgt x 3 := (sF _ (by omega)).trans rfl
      gi_wp2_with fail
      refine hR.mono ?_
      clear hR hy
      rintro e W6 (⟨rfl, hJ6, hk6⟩ | ⟨rfl, hJx6⟩)
      ·have HJ6 := zh hJ6
       have HC6 := zh (HC2.out.keep hk6)
       have hz6 := hk6.1
       rw [HJN.out] at HJ6
       clear hJ6 hk6
       gi_wp2
       go_roundw
       case rel => exact ⟨4, by omega, by go_num, HJ6, HC6, by omega⟩
       case measure => simp [intOf]
      ·have MR := zh hJx6
       clear hJx6
       gi_wp2
       refine bodyPost_ret (results_none rfl _ _ _) rfl ?_
       exact ⟨⟨_, rfl⟩, .inr ⟨_, trivial, MR.out⟩⟩
    ·obtain rfl : j = 4 := by omega
     have hd2 : decide (6 - 2 * ((4 : Nat) : Int) ≥ 0) = false := by simp
     have HF := zh (show (eH x).take 4 = eH x from rfl)
     gi_wp2
     go_roundw
     case rel => exact ⟨i + 1, by omega, by go_num, by rw [HSN.out, ← HF.out]; exact HJ2, HC2, hsz2⟩
     case measure => simp [intOf]; omega
  ·obtain rfl : i = na := by omega
   have hd1 : decide ((i : Int) < (i : Int)) = false := by simp
   have HE : Hid (a.take i = a) := by
    show _ = _
    exact List.take_of_length_le (by have := HC.out.len; omega)
   rw [HE.out] at HJr
   gi_wp2_with fail
   go_end0
   exact ⟨⟨_, rfl⟩, .inl ⟨_, rfl, HJr.out⟩⟩
theorem qR (n : Nat) (hn : 1 ≤ n) (ba bb off na ca : Nat) (a : List Int) (hna : na ≤ 1000000) (w : World)
 (hba : ba < w.heap.size) (hbb : bb < w.heap.size) (hc : BfIn w ba bb off na ca a) :
 SeqStopsK Fence.wide n Tryz.prog 177 #[.pointer (some ⟨ba, 0, none⟩)] ON (Keep2 ba bb) (fun xs => xs = a.flatMap eH) (fun _ => True) (4 * a.length) w := by
 intro l J Jx W hW hJ hJx hY h0
 have hz := hW.size
 exact LN n l ba bb off na ca a hn hna J Jx W (by omega) (by omega) hY (hc.keep (Keep2.of_below hW hba hbb)) h0
attribute [local go_sem] Oper.semAt_some
structure AppN (w : World) (bx base g cap : Nat) (l0 pre : List Int) (W : World) : Prop where
 row : ∃ v, Boxed W bx 158 v ∧ W.ownsRow base 3 1 v (l0.length + pre.length) (nv (l0 ++ pre)) ∧ v = .slice (some ⟨g, 0, none⟩) (l0.length + pre.length) cap
 below : Below base w W
 big : bx + 1 ≤ W.heap.size
 oth : ∀ k, k < w.heap.size → k ≠ g → W.heap[k]? = w.heap[k]?
theorem yN (w : World) (bx base g cap : Nat) (l0 : List Int) (B : Nat) (h1 : base ≤ w.heap.size) (h2 : base ≤ B) (h3 : w.heap.size ≤ bx) (h4 : w.heap.size ≤ B) : OwnFrom B (AppN w bx base g cap l0) := fun pre X Y row h hg hrow =>
 ⟨(Own.from (holdsRow_own base bx 158 3 1 (fun pre : List Int => l0.length + pre.length) (fun pre => nv (l0 ++ pre)) (fun pre v => v = .slice (some ⟨g, 0, none⟩) (l0.length + pre.length) cap)) B) pre X Y row h.row hg hrow,
  ownFrom_below h1 h2 pre X Y row h.below hg hrow, Nat.le_trans h.big hg.size, fun k hk hkg => (hg.block k (by have := h.big; omega) (fun e => by have := (hrow k e.symm).1; omega)).trans (h.oth k hk hkg)⟩
theorem tZ {ba bb : Nat} {M : Nat} (hba : ba < M) (hbb : bb < M) (W : World) (l : Nat) (o o' : Obj) (hl : M ≤ l) (_ : W.heap[l]? = some o) (_ : o.isCells = false) (_ : o.isWalk = false) : Keep2 ba bb W (W.putObj l o') :=
 ⟨by simp, World.putObj_heap_other (by omega), World.putObj_heap_other (by omega)⟩
theorem qM {b6 : Nat} {X Y : World} {g : Nat} {tmp : Obj} (hg : (X.alloc tmp).grownBy Y (some g)) (v : Value) (k : Nat) (hk : k < X.heap.size) (hk6 : k ≠ b6) (hkr : k ≠ g) : (Y.setCell ⟨b6, 0, none⟩ v).heap[k]? = X.heap[k]? :=
 (Below.heap_setCell Y ⟨b6, 0, none⟩ v k hk6).trans ((hg.block k (by rw [World.size_alloc]; omega) (fun e => hkr (by injection e))).trans (Below.heap_alloc X tmp k hk))
theorem mZ {ba bb b6 : Nat} {X Y : World} {g : Nat} {tmp : Obj} (hg : (X.alloc tmp).grownBy Y (some g)) (v : Value) (h1 : ba ≠ g) (h2 : bb ≠ g) (h3 : ba < X.heap.size) (h4 : bb < X.heap.size) (h5 : ba ≠ b6) (h6 : bb ≠ b6) :
 Keep2 ba bb X (Y.setCell ⟨b6, 0, none⟩ v) := by
 have hs := hg.size
 rw [World.size_alloc] at hs
 have go : ∀ k, k < X.heap.size → k ≠ b6 → k ≠ g → (Y.setCell ⟨b6, 0, none⟩ v).heap[k]? = X.heap[k]? := fun k hk hk6 hkr =>
  (Below.heap_setCell Y ⟨b6, 0, none⟩ v k hk6).trans ((hg.block k (by rw [World.size_alloc]; omega) (fun e => hkr (by injection e))).trans (Below.heap_alloc X tmp k hk))
 exact ⟨by show _ ≤ (Y.heap.modify _ _).size; rw [Array.size_modify]; omega, go ba h3 h5 h1, go bb h4 h6 h2⟩
def OS (ba g n cap bx : Nat) (x : Int) : Act := { tmps := #[.slice (some ⟨g, 0, none⟩) n cap, .func (.func 177) #[] #[.pointer (some ⟨ba, 0, none⟩)], .pointer (some ⟨bx, 0, none⟩), undef, .slice none 0 0, .int .i64 x, .func (.func 177) #[] #[.pointer (some ⟨ba, 0, none⟩)], .int .i64 x, undef, undef, undef, undef, undef], defers := [] }
theorem pW (ba bb off na ca : Nat) (a : List Int) (g cap : Nat) (l0 : List Int) (base : Nat) (w : World) (hna : na ≤ 1000000) (hfit : l0.length + 4 * a.length ≤ cap)
 (hown : OwnN w base (.slice (some ⟨g, 0, none⟩) l0.length cap) l0) (hbase : base ≤ w.heap.size) (hba : ba < w.heap.size) (hbb : bb < w.heap.size) (hag : ba ≠ g) (hbg : bb ≠ g) (hc : BfIn w ba bb off na ca a) :
 Calls Tryz.prog 161 #[.slice (some ⟨g, 0, none⟩) l0.length cap, .func (.func 177) #[] #[.pointer (some ⟨ba, 0, none⟩)]] w fun e w' =>
  e = .returned (.slice (some ⟨g, 0, none⟩) (l0 ++ a.flatMap eH).length cap) ∧ OwnN w' base (.slice (some ⟨g, 0, none⟩) (l0 ++ a.flatMap eH).length cap) (l0 ++ a.flatMap eH) ∧ Below base w w' ∧ ∀ k, k < w.heap.size → k ≠ g → w'.heap[k]? = w.heap[k]? := by
 have HC := zh hc; have AQ := zh hown; clear hc hown
 have HB := zh (heap_alloc_new w (.cells #[Value.slice (some ⟨g, 0, none⟩) l0.length cap] 158))
 refine (callsIn_wide (n := 8)).1 ?_
 refine callsIn_of_wp_marks Tryz.func161 rfl trivial ?_ rfl
 simp only [Tryz.ntmps161, List.size_toArray, List.length_cons, List.length_nil, Nat.reduceAdd, Nat.reduceSub, Array.replicate_succ, Array.replicate_zero, List.push_toArray, List.append_toArray, List.nil_append, List.cons_append]
 gi_wp2_with fail
 generalize hw1 : World.alloc w _ = w1
 have hb1 : Below w.heap.size w w1 := by rw [← hw1]; exact (Below.refl _ w).alloc (Nat.le_refl _) _
 have hz1 : w1.heap.size = w.heap.size + 1 := by rw [← hw1]; simp
 have r2 : Boxed w1 w.heap.size 158 (.slice (some ⟨g, 0, none⟩) l0.length cap) := by show w1.heap[_]? = _; rw [← hw1]; exact HB.out
 clear hw1 HB
 generalize hbx : w.heap.size = bx at *
 have HSB : Hid (BfIn w1 ba bb off na ca a) := HC.out.keep (Keep2.of_below hb1 hba hbb)
 have HIN : Hid (AppN w bx base g cap l0 [] w1) := ⟨⟨_, r2, by have := AQ.out.below (hbx ▸ hb1); rw [List.append_nil]; exact this, rfl⟩, hb1.mono hbase, by omega, fun k hk _ => hb1.block k (hbx ▸ hk)⟩
 have HN : Hid (a.length = na) := HC.out.len
 have hz1a : bx + 1 ≤ w1.heap.size := by omega
 have hz1b : w1.heap.size ≤ bx + 1 := by omega
 have HBX := zh hbx
 have hI := yN w bx base g cap l0 w1.heap.size (by omega) (by omega) (by omega) (by omega)
 clear r2 hb1 hz1 hbx
 have HIo := zh hI
 refine wpIn_rangeFunc_ownF (α := Int) rfl (by decide) (gf := 177) (lb := #[.pointer (some ⟨ba, 0, none⟩)]) rfl trivial (enters_of Tryz.func177 (by kernel_rfl) rfl)
  (qR 7 (by decide) ba bb off na ca a hna w1 (by omega) (by omega) HSB.out)
  Keep2.trans (tZ (by omega) (by omega)) (Below.refl _ _) (fun _ => rfl) (AppN w bx base g cap l0) (fun _ _ _ => False) hI (fun _ _ _ _ _ h _ _ => h) HIN.out
  (fun x => OS ba g l0.length cap bx x) ?assign ?body ?done ?stop
 clear hI
 case assign =>
  intro l x W K hK
  have HK := zh hK
  clear hK
  simp only [ON, List.zip_toArray, List.zip_cons_cons, List.zip_nil_right, List.foldl_toArray, List.foldl_cons, List.foldl_nil, List.setIfInBounds_toArray, List.set_cons_succ, List.set_cons_zero]
  gi_wp2_with fail
  exact HK.out
 case body =>
  rintro l pre x W hin hlen
  have hbig := hin.big
  have HFI := zh hin
  obtain ⟨v, hv, hrow, rfl⟩ := hin.row
  have HV := zh hv; have yQ := zh hrow
  have hc6 := hv.cell
  have hf6 := hv.frozen
  have hkl : l0.length + pre.length + 1 ≤ cap := by omega
  have HKL := zh hkl
  have hbx := HBX.out
  have hbaseW : base ≤ W.heap.size := by omega
  obtain ⟨i0, hi0, hz0, hz1, hz2⟩ := bF xV
  have HI0 := zh hi0; have HZ1 := zh hz1
  clear hv hrow hin hbx hi0 hz0 hz1 hz2
  unfold OS
  gi_wp2_with (refine wpListIn_append_fits _ rfl (.tmp 8) (.tmp 10) _ rfl base _ i0 1 Tryz.underlying158 HI0.out HZ1.out g (l0.length + pre.length) cap (nv (l0 ++ pre)) rfl (yQ.out.alloc _) ⟨W.heap.size, 0, none⟩ 1 1 [.int .i64 x] rfl rfl (pH W x) (by intro u hu; simp at hu; subst hu; rfl) HKL.out ?_; intro W5 HO5 HG5; have ND := zh HO5; have JO := zh HG5; have happ := HV.out.appended (by decide) yQ.out hbaseW (by omega : base ≤ bx) ND.out JO.out; have hc7 := happ.1.cell; have hf7 := happ.1.frozen; have HAPP := zh happ; clear happ HO5 HG5)
  obtain ⟨-, hp2, hp3, hp4, hp5⟩ := HAPP.out
  have hk4 := mZ JO.out (.slice (some ⟨g, 0, none⟩) (l0.length + pre.length + 1) cap) hag hbg (by omega : ba < W.heap.size) (by omega : bb < W.heap.size) (by omega : ba ≠ bx) (by omega : bb ≠ bx)
  refine ⟨hp4, hk4, ⟨_, hp2, ?_, ?_⟩, HFI.out.below.trans hp5, Nat.le_trans HFI.out.big hk4.1, fun k hk hkg => (qM JO.out _ k (by have := HBX.out; omega) (by have := HBX.out; omega) hkg).trans (HFI.out.oth k hk hkg)⟩
  ·rw [← List.append_assoc, vV, List.length_append]; exact hp3
  ·rw [List.length_append]; rfl
 case done =>
  rintro D xs W hD hS hin hK
  have HS := zh hS; clear hS
  obtain ⟨v, hv, hrow, rfl⟩ := hin.row
  have hc6 := hv.cell
  have yQ := zh hrow; have HFI := zh hin; have HKs := zh hK
  clear hin hrow hK
  have HBX2 := HBX.out
  have hD2 : base ≤ D := by omega
  gi_wp2_with fail
  refine ⟨by simp, .inl ⟨_, _, rfl, run_takeDeferred HKs.out, ?_⟩⟩
  refine ⟨.slice (some ⟨g, 0, none⟩) (l0.length + xs.length) cap, ?_, ?_⟩
  ·simp [results, Tryz.f161, go_sem]
  ·have hS : xs = a.flatMap eH := HS.out
   rw [← hS, List.length_append]
   refine ⟨rfl, ?_, HFI.out.below.trans (belowK_b (w := w1) (by omega) W D _ _ (by omega) HKs.out rfl rfl), fun k hk hkg => (World.putObj_heap_other (by omega)).trans (HFI.out.oth k (by omega) hkg)⟩
   show World.ownsRow _ _ _ _ _ _ _
   rw [List.length_append]
   exact ownsRow_putObj yQ.out _ HKs.out rfl
 case stop =>
  rintro D c pre W hD hSp hout hK
  exact hout.elim
attribute [local go_sem] Oper.semAt_some
theorem nG (sp : Option Addr) (n cap : Nat) (w : World) :
 Calls Tryz.prog 160 #[.slice sp n cap] w fun e w' => e = .returned (.func (.func 177) #[] #[.pointer (some ⟨w.heap.size, 0, none⟩)]) ∧ w' = w.alloc (.cells #[.slice sp n cap] 22) := by
 go_enter Tryz.func160, Tryz.ntmps160
 go_wp2_with fail
 go_ret
 exact ⟨rfl, rfl⟩
theorem yI {w w' : World} {g : Nat} (h : ∀ k, k < w.heap.size → k ≠ g → w'.heap[k]? = w.heap[k]?) (k : Nat) (h1 : k < w.heap.size) (h2 : k ≠ g) : w'.cell? ⟨k, 0, none⟩ = w.cell? ⟨k, 0, none⟩ := World.cell?_of_block (a := ⟨k, 0, none⟩) (h k h1 h2)
theorem CN {ba bb c : Nat} (h1 : ba ≠ c) (h2 : bb ≠ c) (X : World) (v : Value) : Keep2 ba bb X (X.setCell ⟨c, 0, none⟩ v) :=
 ⟨by show _ ≤ (Array.modify _ _ _).size; rw [Array.size_modify]; exact Nat.le_refl _, Below.heap_setCell X ⟨c, 0, none⟩ v ba h1, Below.heap_setCell X ⟨c, 0, none⟩ v bb h2⟩
def JW (l : List Int) : Int := l.foldl (fun s x => wrap64 (s + wrap64 (3 - x))) 0
theorem sW (l : List Int) (x : Int) : JW (l ++ [x]) = wrap64 (JW l + wrap64 (3 - x)) := by simp [JW, List.foldl_append]
theorem sO {x : Int} (h1 : -9223372036854775808 ≤ x) (h2 : x ≤ 9223372036854775807) : wrap64 x = x := by unfold wrap64; omega
theorem BA {l : List Int} (h : ∀ y ∈ l, 0 ≤ y ∧ y ≤ 3) (hl : l.length ≤ 1000) : JW l = lK l := by
 obtain ⟨k, hk⟩ : ∃ k, k = l.length := ⟨_, rfl⟩
 induction k generalizing l with
 | zero => rw [List.eq_nil_of_length_eq_zero hk.symm]; rfl
 | succ k ih =>
   have hne : l ≠ [] := by intro e; subst e; simp at hk
   have e := (List.dropLast_concat_getLast hne).symm
   have hlen : l.dropLast.length = k := by rw [List.length_dropLast]; omega
   have hb := h _ (List.getLast_mem hne)
   generalize l.getLast hne = x at *
   generalize l.dropLast = t at *
   subst e
   have ht : ∀ y ∈ t, 0 ≤ y ∧ y ≤ 3 := fun y hy => h y (by simp [hy])
   have hr := mK ht
   rw [sW, ih ht (by omega) hlen.symm, tY, sO (x := 3 - x) (by omega) (by omega), sO (by omega) (by omega)]
   omega
structure DigN (w : World) (b p : Nat) (pre : List Int) (W : World) : Prop where
 app : AppN w p (b + 1) (b + 1) 68 [] pre W
 sum : Boxed W (p + 1) 3 (.int .i64 (JW pre))
 big : p + 3 ≤ W.heap.size
theorem GQ (w : World) (b p B : Nat) (h1 : b + 1 ≤ w.heap.size) (h2 : b + 1 ≤ B) (h3 : w.heap.size ≤ p) (h4 : w.heap.size ≤ B) : OwnFrom B (DigN w b p) := fun pre X Y row h hg hrow =>
 ⟨yN w p (b + 1) (b + 1) 68 [] B h1 h2 h3 h4 pre X Y row h.app hg hrow, (boxed_own (p + 1) 3 (fun pre : List Int => .int .i64 (JW pre))).from B pre X Y row h.sum hg hrow, Nat.le_trans h.big hg.size⟩
def OO (d : List Int) (b p : Nat) (x : Int) : Act := { tmps := #[.agg (dgA d), .pointer (some ⟨b, 0, none⟩), .slice none 0 0, .pointer (some ⟨p, 0, none⟩), .pointer (some ⟨p + 1, 0, none⟩), .int .i64 x, .slice (some ⟨b + 1, 0, none⟩) 0 68, .slice (some ⟨b, 0, none⟩) 16 32, .func (.func 177) #[] #[.pointer (some ⟨p + 2, 0, none⟩)], .int .i64 x, undef, undef, undef, undef, undef, undef, undef, undef, undef, undef, undef, undef, undef, undef], defers := [] }
theorem qW (d : List Int) (hd : D32 d) (w : World) :
 Calls Tryz.prog 129 #[.agg (dgA d)] w fun e w' => ∃ sp cap, e = .returned (.slice sp 68 cap) ∧ OwnN w' w.heap.size (.slice sp 68 cap) (digs d) ∧ Below w.heap.size w w' := by
 have HD := zh hd; clear hd
 have HN := zh (heap_alloc_new w (.cells (dgA d) 43))
 have HB := zh ((Below.refl w.heap.size w).alloc (Nat.le_refl _) (.cells (dgA d) 43))
 have HZ := zh (World.size_alloc w (.cells (dgA d) 43))
 refine (callsIn_wide (n := 12)).1 ?_
 refine callsIn_of_wp_marks Tryz.func129 rfl trivial ?_ rfl
 simp only [Tryz.ntmps129, List.size_toArray, List.length_cons, List.length_nil, Nat.reduceAdd, Nat.reduceSub, Array.replicate_succ, Array.replicate_zero, List.push_toArray, List.append_toArray, List.nil_append, List.cons_append]
 obtain ⟨i0, hi0, hz0, hz1, hz2⟩ := bF xV
 have HI0 := zh hi0; have HZ0 := zh hz0; have HZ1 := zh hz1; have HZ2 := zh hz2
 clear hi0 hz0 hz1 hz2
 generalize hb : w.heap.size = b at *
 have HBZ := zh hb; clear hb
 gi_wp2_with (gi_at_make; generalize hw0 : World.alloc w _ = w0; have HD0 := zh (show w0.heap[b]? = some (.cells (dgA d) 43 (0, 0)) by rw [← hw0]; exact HN.out); have HB0 := zh (show Below b w w0 by rw [← hw0]; exact HB.out); have HS0 := zh (show w0.heap.size = b + 1 by rw [← hw0]; exact HZ.out); clear hw0 HN HB HZ; have hs0 : b + 1 ≤ w0.heap.size := Nat.le_of_eq HS0.out.symm; refine wpListIn_make_own _ rfl _ _ 158 rfl (b + 1) 3 i0 (.int .i64 0) 1 Tryz.underlying158 HI0.out HZ0.out HZ1.out .i64 .i64 68 68 rfl rfl rfl (by rw [HZ2.out]; decide) (by unfold maxLen; decide) hs0 ?_; intro w1 HO1 HG1)
 simp only [HS0.out, HBZ.out]
 have hz1 : b + 2 ≤ w1.heap.size := by
  obtain ⟨_, h | ⟨g, cap, cur, e, hg, h1, _⟩⟩ := HO1
  ·cases h.1
  ·have := (Array.getElem?_eq_some_iff.1 h1).1
   have e2 : g = w0.heap.size := by simp only [Value.slice.injEq, Option.some.injEq, Addr.mk.injEq] at e; exact e.1.1.symm
   have := HS0.out
   omega
 have HO1' : Hid (OwnN w1 (b + 1) (.slice (some ⟨b + 1, 0, none⟩) 0 68) []) := by have h := HO1; rw [HS0.out] at h; exact h
 have HB1 : Hid (Below (b + 1) w0 w1) := (Below.refl _ w0).grown HG1 hs0 (fun k e => by cases e)
 clear HO1 HG1
 have HB2 := zh (((Below.refl w1.heap.size w1).alloc (Nat.le_refl _) (.cells #[Value.slice (some ⟨b + 1, 0, none⟩) 0 68] 158)).alloc (by simp) (.cells #[Value.int .i64 0] 3))
 have HR2 := zh (heap_alloc_new w1 (.cells #[Value.slice (some ⟨b + 1, 0, none⟩) 0 68] 158))
 have HR3 := zh (heap_alloc_new (w1.alloc (.cells #[Value.slice (some ⟨b + 1, 0, none⟩) 0 68] 158)) (.cells #[Value.int .i64 0] 3))
 have HR4 := zh (heap_alloc_old (w1.alloc (.cells #[Value.slice (some ⟨b + 1, 0, none⟩) 0 68] 158)) (.cells #[Value.int .i64 0] 3) (show w1.heap.size < _ by simp))
 generalize hw2 : World.alloc (World.alloc w1 _) _ = w2
 have H2a : Hid (w2.heap[w1.heap.size]? = some (.cells #[Value.slice (some ⟨b + 1, 0, none⟩) 0 68] 158 (0, 0))) := by rw [← hw2]; exact HR4.out.trans HR2.out
 have H2b : Hid (w2.heap[w1.heap.size + 1]? = some (.cells #[Value.int .i64 0] 3 (0, 0))) := by rw [← hw2]; have := HR3.out; rw [World.size_alloc] at this; exact this
 have H2 : Hid (Below w1.heap.size w1 w2) := by rw [← hw2]; exact HB2.out
 have hz2 : w2.heap.size = w1.heap.size + 2 := by rw [← hw2]; simp
 clear hw2 HB2 HR2 HR3 HR4
 have HZ2' := zh hz2; clear hz2
 generalize hp : w1.heap.size = p at *
 have HP := zh hp; clear hp
 refine ⟨trivial, (callsIn_wide.2 (nG _ _ _ w2)).mono ?_⟩
 rintro e w3 ⟨rfl, hw3⟩
 simp only [HZ2'.out]
 have HB3 : Hid (Below (p + 2) w2 w3) := by rw [hw3]; exact (Below.refl _ _).alloc (Nat.le_of_eq HZ2'.out.symm) _
 have H3c : Hid (w3.heap[p + 2]? = some (.cells #[Value.slice (some ⟨b, 0, none⟩) 16 32] 22 (0, 0))) := by rw [hw3, ← HZ2'.out]; exact heap_alloc_new _ _
 have H3z : Hid (w3.heap.size = p + 3) := by show _ = _; rw [hw3, World.size_alloc, HZ2'.out]
 clear hw3
 have H3a : Hid (Boxed w3 p 158 (.slice (some ⟨b + 1, 0, none⟩) 0 68)) := by show _ = _; rw [HB3.out.block p (by omega)]; exact H2a.out
 have H3b : Hid (Boxed w3 (p + 1) 3 (.int .i64 0)) := by show _ = _; rw [HB3.out.block (p + 1) (by omega)]; exact H2b.out
 have HB23 : Hid (Below p w1 w3) := H2.out.trans (HB3.out.mono (by omega))
 have H3d : Hid (w3.heap[b]? = some (.cells (dgA d) 43 (0, 0))) := by
  show _ = _; rw [HB23.out.block b (by omega), HB1.out.block b (by omega)]; exact HD0.out
 have H3o : Hid (OwnN w3 (b + 1) (.slice (some ⟨b + 1, 0, none⟩) 0 68) []) := by
  have h := HB23.out; rw [← HP.out] at h; exact HO1'.out.below h
 have HBA : Hid (Below b w w3) := HB0.out.trans ((HB1.out.mono (by omega)).trans (HB23.out.mono (by omega)))
 have HBA1 : Hid (Below (b + 1) w0 w3) := HB1.out.trans (HB23.out.mono (by omega))
 have hz3 : p + 3 ≤ w3.heap.size := Nat.le_of_eq H3z.out.symm
 have hz3' : w3.heap.size ≤ p + 3 := Nat.le_of_eq H3z.out
 clear H2a H2b H2 HB3
 have HSB : Hid (BfIn w3 (p + 2) b 0 16 32 (d.take 16)) := ⟨by rw [cell_of_row w3 (p + 2) 0 _ _ _ H3c.out]; rfl, by rw [List.length_take, HD.out.1]; rfl, fun x hx => HD.out.2 x (List.mem_of_mem_take hx), fun j hj => by
  rw [Nat.zero_add, aH H3d.out (pB d j (by have := HD.out.1; omega)), List.getD_eq_getElem?_getD, List.getD_eq_getElem?_getD, List.getElem?_take, if_pos hj]⟩
 have HIN : Hid (DigN w0 b p [] w3) := ⟨⟨⟨_, H3a.out, H3o.out, rfl⟩, HBA1.out, by omega, fun k hk _ => HBA1.out.block k (by have := HS0.out; omega)⟩, H3b.out, by omega⟩
 have hI := GQ w0 b p w3.heap.size (by omega) (by omega) (by have := HS0.out; omega) (by have := HS0.out; omega)
 have HIo := zh hI
 gi_wp2_with fail
 refine wpIn_rangeFunc_ownF (α := Int) rfl (by decide) (gf := 177) (lb := #[.pointer (some ⟨p + 2, 0, none⟩)]) rfl trivial (enters_of Tryz.func177 (by kernel_rfl) rfl)
  (qR 11 (by decide) (p + 2) b 0 16 32 (d.take 16) (by omega) w3 (by omega) (by omega) HSB.out)
  Keep2.trans (tZ (by omega) (by omega)) (Below.refl _ _) (fun _ => rfl) (DigN w0 b p) (fun _ _ _ => False) hI (fun _ _ _ _ _ h _ _ => h) HIN.out
  (fun x => OO d b p x) ?assign ?body ?done ?stop
 clear hI
 case assign =>
  intro l x W K hK
  have HK := zh hK
  clear hK
  simp only [ON, List.zip_toArray, List.zip_cons_cons, List.zip_nil_right, List.foldl_toArray, List.foldl_cons, List.foldl_nil, List.setIfInBounds_toArray, List.set_cons_succ, List.set_cons_zero]
  gi_wp2_with fail
  exact HK.out
 case body =>
  rintro l pre x W hin hlen
  have hbig := hin.big
  have HFI := zh hin
  obtain ⟨v, hv, hrow, rfl⟩ := hin.app.row
  have hsum := hin.sum
  simp only [List.length_nil, Nat.zero_add, List.nil_append] at hv hrow
  have HV := zh hv; have yQ := zh hrow; have HSM := zh hsum
  have hc6 := hv.cell
  have hf6 := hv.frozen
  have hl16 : (d.take 16).length = 16 := by rw [List.length_take, HD.out.1]; rfl
  have hkl : pre.length + 1 ≤ 68 := by rw [hl16] at hlen; omega
  have HKL := zh hkl
  have hbaseW : b + 1 ≤ W.heap.size := by omega
  obtain ⟨i0, hi0, hz0, hz1, hz2⟩ := bF xV
  have HI0 := zh hi0; have HZ1 := zh hz1
  clear hv hrow hin hi0 hz0 hz1 hz2 hl16 hkl hlen hsum
  unfold OO
  gi_wp2_with (refine wpListIn_append_fits _ rfl (.tmp 10) (.tmp 12) _ rfl (b + 1) _ i0 1 Tryz.underlying158 HI0.out HZ1.out (b + 1) pre.length 68 (nv pre) rfl (yQ.out.alloc _) ⟨W.heap.size, 0, none⟩ 1 1 [.int .i64 x] rfl rfl (pH W x) (by intro u hu; simp at hu; subst hu; rfl) HKL.out ?_; intro W5 HO5 HG5; have ND := zh HO5; have JO := zh HG5; have happ := HV.out.appended (by decide) yQ.out hbaseW (by omega : b + 1 ≤ p) ND.out JO.out; have hc7 := happ.1.cell; have hf7 := happ.1.frozen; have HAPP := zh happ; have h8 := (HSM.out.alloc (.cells #[.int .i64 x] 3)).kept JO.out (fun e => by injection e with e; omega); have hc8 := h8.cell; have hf8 := h8.frozen; have HS8 := zh h8; clear happ HO5 HG5 h8)
  obtain ⟨-, hp2, hp3, hp4, hp5⟩ := HAPP.out
  have hk4 := mZ JO.out (.slice (some ⟨b + 1, 0, none⟩) (pre.length + 1) 68) (by omega : p + 2 ≠ b + 1) (by omega : b ≠ b + 1) (by omega : p + 2 < W.heap.size) (by omega : b < W.heap.size) (by omega : p + 2 ≠ p) (by omega : b ≠ p)
  refine ⟨hp4.trans (KeepsOthers.setCell _ _ _), hk4.trans (CN (by omega) (by omega) _ _), ⟨⟨_, hp2.other (by omega) _, ?_, ?_⟩, (HFI.out.app.below.trans hp5).setCell (by show b + 1 ≤ p + 1; omega) _, ?_, fun k hk hkg => (Below.heap_setCell _ ⟨p + 1, 0, none⟩ _ k (by have := HS0.out; show k ≠ p + 1; omega)).trans ((qM JO.out _ k (by have := HS0.out; omega) (by have := HS0.out; omega) hkg).trans (HFI.out.app.oth k hk hkg))⟩, ?_, ?_⟩
  ·rw [List.nil_append, List.length_append, vV]
   simp only [List.length_nil, Nat.zero_add]
   exact hp3.kept (grownBy_setCell' _ _ _) (.inr (by simp [Value.ownBlock]; omega))
  ·rw [List.length_append]; simp
  ·have h1 := hk4.1; show _ ≤ (Array.modify _ _ _).size; rw [Array.size_modify]; omega
  ·rw [sW]; exact (HS8.out.other (by omega) _).set _
  ·have h1 := hk4.1; show _ ≤ (Array.modify _ _ _).size; rw [Array.size_modify]; omega
 case done =>
  rintro D xs W hD hS hin hK
  have hS2 : xs = nN d := hS
  have HS := zh hS2; clear hS hS2
  obtain ⟨v, hv, hrow, rfl⟩ := hin.app.row
  have hbig := hin.big
  have hsum := hin.sum
  simp only [List.length_nil, Nat.zero_add, List.nil_append] at hv hrow
  have hsl : JW xs = lK xs := by rw [HS.out]; exact BA (fun y hy => kE hy) (by rw [fQ HD.out.1]; decide)
  have hs0 : 0 ≤ lK xs ∧ lK xs ≤ 192 := by rw [HS.out]; exact IZ HD.out.1
  rw [hsl] at hsum
  have hc6 := hv.cell
  have hc7 := hsum.cell
  have HX : Hid (digs d = xs ++ eH (lK xs)) := by rw [HS.out]; rfl
  have HL64 : Hid (xs.length = 64) := by rw [HS.out]; exact fQ HD.out.1
  generalize hs : lK xs = s at *
  have HSS := zh hs; clear hs
  have yQ := zh hrow; have HFI := zh hin; have HKs := zh hK
  have hwr : IntKind.u8.wrap s = s := by simp [IntKind.wrap, IntKind.bits, IntKind.signed]; omega
  clear hin hrow hK hv hsl hsum
  gi_wp2_with fail
  refine wpIn_wide.2 ?_
  refine wp_region_noPanic ?_
  refine wp_region_held_drew (S := fun w' => w'.cell? ⟨p, 0, none⟩ = some (.slice (some ⟨b + 1, 0, none⟩) xs.length 68) ∧ w'.cell? ⟨p + 1, 0, none⟩ = some (.int .i64 s)) (by kernel_rfl) ⟨hc6, hc7⟩ (fun hHeld => ?_)
  refine zx 0 rfl (v := ?_) ?_ ?_; rotate_left
  ·intro w' hSw; have hq := hSw.1; go_simp; try with_reducible rfl
  refine zx 1 rfl (v := ?_) ?_ ?_; rotate_left
  ·intro w' hSw; have hq := hSw.2; go_simp; try with_reducible rfl
  refine zv 2 rfl ?_
  refine zr 3 rfl (fun K hK => ?_)
  go_simp
  have HR4 := zh (show ((W.alloc (.cells #[Value.int .u8 s] 5)).drew).heap[W.heap.size]? = some (.cells #[Value.int .u8 s] 5 (0, 0)) from heap_alloc_new W _)
  have HB4 := zh (((Below.refl W.heap.size W).alloc (Nat.le_refl _) (.cells #[Value.int .u8 s] 5)).drew)
  have HZ4 := zh (show ((W.alloc (.cells #[Value.int .u8 s] 5)).drew).heap.size = W.heap.size + 1 by simp)
  generalize hw4 : World.drew (World.alloc W _) = w4
  rw [hw4] at HR4 HB4 HZ4
  clear hw4
  refine hK.out _ _ ⟨(HB4.out.cell (p := ⟨p, 0, none⟩) (by show p < _; omega)).trans hc6, (HB4.out.cell (p := ⟨p + 1, 0, none⟩) (by show p + 1 < _; omega)).trans hc7⟩ fun _ => ?_; clear hK K
  try simp only [Act.put, zA, zB, zC, zD, zE, zF]
  refine zr 4 rfl (fun K hK => ?_)
  go_simp
  with_reducible refine (nG _ _ _ _).mono ?_
  rintro e w5 ⟨rfl, hw5⟩
  simp only [HZ4.out]
  have HB5 : Hid (Below W.heap.size W w5) := by rw [hw5]; exact HB4.out.alloc HB4.out.size _
  have HBF5 : Hid (BfIn w5 (W.heap.size + 1) W.heap.size 0 1 1 [s]) := ⟨by rw [hw5, ← HZ4.out]; exact aH (heap_alloc_new w4 _) rfl, rfl, fun x hx => by (rw [List.mem_singleton.1 hx]; omega), fun j hj => by
   obtain rfl : j = 0 := by omega
   rw [hw5]
   exact aH (L := [Value.int .u8 s]) ((heap_alloc_old w4 _ (by have := HZ4.out; omega)).trans HR4.out) rfl⟩
  have HCN : Hid (Calls Tryz.prog 161 #[.slice (some ⟨b + 1, 0, none⟩) xs.length 68, .func (.func 177) #[] #[.pointer (some ⟨W.heap.size + 1, 0, none⟩)]] w5 fun e w' => e = .returned (.slice (some ⟨b + 1, 0, none⟩) 68 68) ∧ OwnN w' (b + 1) (.slice (some ⟨b + 1, 0, none⟩) 68 68) (digs d) ∧ Below (b + 1) w5 w' ∧ ∀ k, k < w5.heap.size → k ≠ b + 1 → w'.heap[k]? = w5.heap[k]?) := by
   have hz5 : w5.heap.size = W.heap.size + 2 := by rw [hw5, World.size_alloc, HZ4.out]
   have h := pW (W.heap.size + 1) W.heap.size 0 1 1 [s] (b + 1) 68 xs (b + 1) w5 (by omega) (by have := HL64.out; simp only [List.length_singleton]; omega) (OwnN.below yQ.out HB5.out) (by omega) (by omega) (by omega) (by omega) (by omega) HBF5.out
   have e : xs ++ [s].flatMap eH = digs d := by rw [HX.out]; simp
   rw [e, dE HD.out.1] at h
   exact h
  have HQ5 : Hid (w5.cell? ⟨p, 0, none⟩ = some (.slice (some ⟨b + 1, 0, none⟩) xs.length 68) ∧ w5.cell? ⟨p + 1, 0, none⟩ = some (.int .i64 s)) := ⟨(HB5.out.cell (p := ⟨p, 0, none⟩) (by show p < _; omega)).trans hc6, (HB5.out.cell (p := ⟨p + 1, 0, none⟩) (by show p + 1 < _; omega)).trans hc7⟩
  have HZ5 : Hid (w5.heap.size = W.heap.size + 2) := by show _ = _; rw [hw5, World.size_alloc, HZ4.out]
  clear hw5
  go_wp2_with fail
  refine hK.out _ _ HQ5.out fun _ => ?_; clear hK K
  try simp only [Act.put, zA, zB, zC, zD, zE, zF]
  refine zr 5 rfl (fun K hK => ?_)
  go_simp
  with_reducible refine (HCN.out).mono ?_
  rintro e w6 ⟨rfl, hown6, hbel6, hoth6⟩
  have HO6 := zh hown6; have HB6 := zh hbel6
  have HK6 : Hid (w6.heap[D]? = some (.deferred (some []))) := (hoth6 D (by have := HB5.out.size; have := (Array.getElem?_eq_some_iff.1 HKs.out).1; omega) (by omega)).trans ((HB5.out.block D (Array.getElem?_eq_some_iff.1 HKs.out).1).trans HKs.out)
  have hz5 := HZ5.out
  clear hown6 hbel6
  go_wp2_with fail
  refine hK.out _ _ ⟨(yI hoth6 p (by omega) (by omega)).trans HQ5.out.1, (yI hoth6 (p + 1) (by omega) (by omega)).trans HQ5.out.2⟩ fun _ => ?_; clear hK K
  try simp only [Act.put, zA, zB, zC, zD, zE, zF]
  refine zv 6 rfl ?_
  refine zd ?_ _
  refine NoPanic.normal ?_
  have hD2 : b + 1 ≤ D := by omega
  have hHB := HBZ.out
  gi_wp2_with fail
  refine ⟨by simp, .inl ⟨_, _, rfl, run_takeDeferred HK6.out, ?_⟩⟩
  refine ⟨.slice (some ⟨b + 1, 0, none⟩) 68 68, ?_, ?_⟩
  ·simp [results, Tryz.f129, go_sem]
  ·refine ⟨some ⟨b + 1, 0, none⟩, 68, rfl, OwnN.base (base := b + 1) ?_ (by omega), ?_⟩
   ·have h := HO6.out
    exact ownsRow_putObj h _ HK6.out rfl
   ·have x1 : Below (b + 1) W w5 := HB5.out.mono (by omega)
    have x2 := belowK_b (n₀ := b + 1) (w := w3) (by omega) w6 D _ (.deferred none) hD HK6.out rfl rfl
    have x3 := HFI.out.app.below.trans (x1.trans (HB6.out.trans x2))
    exact HB0.out.trans (x3.mono (by omega))
 case stop =>
  rintro D c pre W hD hSp hout hK
  exact hout.elim
end Go.Proofs.YtcligodahogpkaaGreatDoor
namespace Go.Proofs.YtcligodahogpkaaGreatDoor
open Go.RowKit Go.Proofs.YtcligodahogpkaaGreatDoor.One
theorem OwnN.cells {w : World} {base : Nat} {sp : Option Addr} {n cap : Nat} {l : List Int} (h : OwnN w base (.slice sp n cap) l) (hl : l.length = n) (hn : 0 < n) :
 ∃ g, sp = some ⟨g, 0, none⟩ ∧ g < w.heap.size ∧ n ≤ cap ∧ ∀ j, j < n → w.cell? ⟨g, j, none⟩ = some (.int .i64 (l.getD j 0)) := by
 obtain ⟨h0, h | ⟨g, c, cur, e, hg, h1, h2, h3, h4, h5⟩⟩ := h
 ·have e := h.1; simp only [Value.slice.injEq] at e; omega
 ·simp only [Value.slice.injEq] at e
  obtain ⟨e1, e2, e3⟩ := e
  subst e3
  refine ⟨g, e1, (Array.getElem?_eq_some_iff.1 h1).1, by omega, fun j hj => ?_⟩
  rw [cell_of_row w g j _ _ _ h1]
  have h6 : (nv l)[j]? = some (.int .i64 (l.getD j 0)) := by
   unfold nv
   rw [List.getElem?_map, List.getD_eq_getElem?_getD, List.getElem?_eq_getElem (by omega)]; rfl
  rw [← h5, List.getElem?_take, if_pos (by omega)] at h6
  simpa using h6
end Go.Proofs.YtcligodahogpkaaGreatDoor
