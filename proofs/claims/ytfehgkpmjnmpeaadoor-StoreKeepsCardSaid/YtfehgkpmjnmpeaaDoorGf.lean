/-
  Plain mathematics, without conditions beyond those of each lemma: the root of a Merkle tree over lists of 32 bytes (no program is named here).
-/
import Derived.Test.YtfehgkpmjnmpeaaDoorGa
import Derived.Deep.RegionHeld3
namespace Go.Proofs.YtfehgkpmjnmpeaaDoor
open Go

/-- k doubled as long as its double is less than n -/
def grow (n : Nat) : Nat → Nat → Nat
  | 0, k => k
  | f + 1, k => if 2 * k < n then grow n f (2 * k) else k
/-- the greatest power of two that is less than n -/
def kp (n : Nat) : Nat := grow n n 1
theorem grow_bound (n : Nat) : ∀ f k, 1 ≤ k → k < n → 1 ≤ grow n f k ∧ grow n f k < n
  | 0, k, h1, h2 => ⟨h1, h2⟩
  | f + 1, k, h1, h2 => by
    unfold grow
    split
    · exact grow_bound n f (2 * k) (by omega) (by omega)
    · exact ⟨h1, h2⟩
theorem kp_bound (n : Nat) (h : 2 ≤ n) : 1 ≤ kp n ∧ kp n < n := grow_bound n n 1 (by omega) (by omega)
/-- what a loop that doubles k knows on its way -/
def OnWay (n k : Nat) : Prop := 1 ≤ k ∧ k < n ∧ ∃ f, n ≤ f + k ∧ grow n f k = kp n
theorem OnWay.start (n : Nat) (h : 2 ≤ n) : OnWay n 1 := ⟨by omega, by omega, n, by omega, rfl⟩
theorem OnWay.step {n k : Nat} (h : OnWay n k) (hk : 2 * k < n) : OnWay n (2 * k) := by
  obtain ⟨h1, _, f, hf, hg⟩ := h
  obtain ⟨g, rfl⟩ : ∃ g, f = g + 1 := ⟨f - 1, by omega⟩
  refine ⟨by omega, hk, g, by omega, ?_⟩
  rw [← hg]; conv => rhs; unfold grow
  rw [if_pos hk]
theorem OnWay.fin {n k : Nat} (h : OnWay n k) (hk : ¬ 2 * k < n) : k = kp n := by
  obtain ⟨_, _, f, _, hg⟩ := h
  rw [← hg]
  cases f with
  | zero => rfl
  | succ g => unfold grow; rw [if_neg hk]

def nodeB (a b : List Int) : List Int := dbytes (sha (1 :: (a ++ b))).list
def treeF : Nat → List (List Int) → List Int
  | 0, _ => List.replicate 32 0
  | f + 1, l => if l.length = 0 then List.replicate 32 0 else if l.length = 1 then l.getD 0 [] else nodeB (treeF f (l.take (kp l.length))) (treeF f (l.drop (kp l.length)))
theorem treeF_stable : ∀ (f g : Nat) (l : List (List Int)), l.length ≤ f → l.length ≤ g → treeF f l = treeF g l
  | 0, 0, _, _, _ => rfl
  | 0, g + 1, l, h, _ => by unfold treeF; rw [if_pos (by omega)]
  | f + 1, 0, l, _, h => by unfold treeF; rw [if_pos (by omega)]
  | f + 1, g + 1, l, h1, h2 => by
    unfold treeF
    by_cases h0 : l.length = 0
    · rw [if_pos h0, if_pos h0]
    · by_cases h3 : l.length = 1
      · rw [if_neg h0, if_neg h0, if_pos h3, if_pos h3]
      · rw [if_neg h0, if_neg h0, if_neg h3, if_neg h3]
        have hk := kp_bound l.length (by omega)
        rw [treeF_stable f g _ (by rw [List.length_take]; omega) (by rw [List.length_take]; omega), treeF_stable f g (l.drop _) (by rw [List.length_drop]; omega) (by rw [List.length_drop]; omega)]
/-- the root of a Merkle tree -/
def tree (l : List (List Int)) : List Int := treeF l.length l
theorem tree_zero (l : List (List Int)) (h : l.length = 0) : tree l = List.replicate 32 0 := by
  unfold tree; rw [h]; rfl
theorem tree_one (l : List (List Int)) (h : l.length = 1) : tree l = l.getD 0 [] := by
  unfold tree; rw [h]; unfold treeF; rw [if_neg (by omega), if_pos h]
theorem tree_more (l : List (List Int)) (h : 2 ≤ l.length) : tree l = nodeB (tree (l.take (kp l.length))) (tree (l.drop (kp l.length))) := by
  have hk := kp_bound l.length h
  obtain ⟨m, hm⟩ : ∃ m, l.length = m + 1 := ⟨l.length - 1, by omega⟩
  have e : tree l = treeF (m + 1) l := by unfold tree; rw [hm]
  rw [e]
  conv => lhs; unfold treeF
  rw [if_neg (by omega), if_neg (by omega)]
  unfold tree
  rw [treeF_stable m _ (l.take _) (by rw [List.length_take]; omega) (Nat.le_refl _), treeF_stable m _ (l.drop _) (by rw [List.length_drop]; omega) (Nat.le_refl _)]
theorem nodeB_length (a b : List Int) : (nodeB a b).length = 32 := by simp [nodeB, dbytes_length, St.list_length]
theorem wb_byt (x : Int) : Byt (wb x) := fun y hy => by
  simp only [wb, List.mem_cons, List.not_mem_nil, or_false] at hy
  rcases hy with rfl | rfl | rfl | rfl <;> omega
theorem dbytes_byt : ∀ l : List Int, Byt (dbytes l)
  | [] => fun x hx => by simp [dbytes] at hx
  | y :: r => (wb_byt y).append (dbytes_byt r)
theorem nodeB_byt (a b : List Int) : Byt (nodeB a b) := dbytes_byt _

/-- each is 32 bytes -/
def Digs (l : List (List Int)) : Prop := ∀ x ∈ l, x.length = 32 ∧ Byt x
theorem Digs.take {l : List (List Int)} (h : Digs l) (k : Nat) : Digs (l.take k) := fun x hx => h x (List.mem_of_mem_take hx)
theorem Digs.drop {l : List (List Int)} (h : Digs l) (k : Nat) : Digs (l.drop k) := fun x hx => h x (List.mem_of_mem_drop hx)
theorem tree_digs (l : List (List Int)) (h : Digs l) : (tree l).length = 32 ∧ Byt (tree l) := by
  by_cases h0 : l.length = 0
  · rw [tree_zero l h0]; exact ⟨by simp, Byt.zeros 32⟩
  · by_cases h1 : l.length = 1
    · rw [tree_one l h1]
      have : l.getD 0 [] ∈ l := by
        rw [List.getD_eq_getElem?_getD, List.getElem?_eq_getElem (by omega)]; exact List.getElem_mem _
      exact h _ this
    · rw [tree_more l (by omega)]; exact ⟨nodeB_length _ _, nodeB_byt _ _⟩
end Go.Proofs.YtfehgkpmjnmpeaaDoor

namespace Go.Proofs.YtfehgkpmjnmpeaaDoor
open Go.RowKit

set_option maxHeartbeats 400000 in
theorem leftLeaves_any (n : Nat) (w : World) (h2 : 2 ≤ n) (hn : n ≤ 1000000) :
    Calls Tryd.prog 49 #[.int .i64 n] w fun e w' => e = .returned (.int .i64 (kp n)) ∧ w = w' := by
  go_enter Tryd.func49, Tryd.ntmps49
  go_wp2_with fail
  go_loop [3] (fun v => ∃ k : Nat, v = .int .i64 k ∧ OnWay n k) (fun v => n - (intOf v).toNat)
  case atStart => exact ⟨1, rfl, OnWay.start n h2⟩
  case round =>
    obtain ⟨k, rfl, hw⟩ := hrel
    have hk1 := hw.1
    have hk2 := hw.2.1
    have HW := Lib.hid hw; clear hw
    by_cases hlt : 2 * k < n
    · have hd : decide ((k : Int) < (n : Int) - k) = true := by simp; omega
      go_wp2
      go_round
      case rel => exact ⟨2 * k, by first | rfl | (simp; omega), HW.out.step hlt⟩
      case measure => simp [intOf]; omega
    · have hd : decide ((k : Int) < (n : Int) - k) = false := by simp; omega
      go_wp2
      go_ret
      exact ⟨by rw [← HW.out.fin hlt]; rfl, rfl⟩

/-- a slice of digests, all below block B -/
structure DigsIn (w : World) (B : Nat) (da : Option Addr) (n cap : Nat) (l : List (List Int)) : Prop where
  len : l.length = n
  digs : Digs l
  cells : 0 < n → ∃ b off, da = some ⟨b, off, none⟩ ∧ b < B ∧ n ≤ cap ∧ ∀ i, i < n → w.rangeAt b (off + i * 32) ((l.getD i []).map (Value.int .u8))
theorem range_below {w w' : World} {b o B : Nat} {cs : List Value} (h : w.rangeAt b o cs) (hb : Below B w w') (hlt : b < B) : w'.rangeAt b o cs := fun j v hv => (hb.cell (p := ⟨b, o + j, none⟩) hlt).trans (h j v hv)
theorem DigsIn.below {w w' : World} {B B' : Nat} {da : Option Addr} {n cap : Nat} {l : List (List Int)} (h : DigsIn w B da n cap l) (hb : Below B' w w') (hB : B ≤ B') : DigsIn w' B' da n cap l :=
  ⟨h.len, h.digs, fun hn => by
    obtain ⟨b, off, e, hlt, hc, hr⟩ := h.cells hn
    exact ⟨b, off, e, by omega, hc, fun i hi => range_below (hr i hi) hb (by omega)⟩⟩
theorem DigsIn.takes {w : World} {B : Nat} {da : Option Addr} {n cap : Nat} {l : List (List Int)} (h : DigsIn w B da n cap l) (k : Nat) (hk : k ≤ n) : DigsIn w B da k cap (l.take k) :=
  ⟨by rw [List.length_take, h.len]; omega, h.digs.take k, fun hn => by
    obtain ⟨b, off, e, hlt, hc, hr⟩ := h.cells (by omega)
    refine ⟨b, off, e, hlt, by omega, fun i hi => ?_⟩
    have := hr i (by omega)
    rw [show (l.take k).getD i [] = l.getD i [] by simp [List.getD_eq_getElem?_getD, hi]]
    exact this⟩
theorem DigsIn.drops {w : World} {B b off n cap : Nat} {l : List (List Int)} (h : DigsIn w B (some ⟨b, off, none⟩) n cap l) (k : Nat) (hk : k ≤ n) : DigsIn w B (some ⟨b, off + k * 32, none⟩) (n - k) (cap - k) (l.drop k) :=
  ⟨by rw [List.length_drop, h.len], h.digs.drop k, fun hn => by
    obtain ⟨b', off', e, hlt, hc, hr⟩ := h.cells (by omega)
    injection e with e; injection e with e1 e2; subst e1 e2
    refine ⟨b, off + k * 32, rfl, hlt, by omega, fun i hi => ?_⟩
    have := hr (k + i) (by omega)
    rw [show off + (k + i) * 32 = off + k * 32 + i * 32 by omega] at this
    rw [show (l.drop k).getD i [] = l.getD (k + i) [] by simp [List.getD_eq_getElem?_getD]]
    exact this⟩

/-- a digest as an array's value -/
def dv (x : List Int) : Array Value := (x.map (Value.int .u8)).toArray
theorem dv_node (a b : List Int) : dv (nodeB a b) = dg (1 :: (a ++ b)) := rfl
theorem dv_size (x : List Int) (h : x.length = 32) : (dv x).size = 32 := by simp [dv, h]
theorem dv_one (x : List Int) : (dv x).all (·.oneCell') = true := oneCell_map _ _
theorem dv_info (x : List Int) (h : x.length = 32) : (Tryd.prog.info? 32).map (·.size) = some (dv x).size := by rw [dv_size x h]; exact Tryd.info25d
theorem dv_size32 (x : List Int) (h : x.length = 32) : (Array.replicate 32 (Value.int .u8 0)).size = (dv x).size := by rw [dv_size x h]; simp
def TreeRes (w : World) (l : List (List Int)) (e : Ending) (w' : World) : Prop := e = .returned (.agg (dv (tree l))) ∧ Below w.heap.size w w'
theorem build25 (w : World) : (Instr.build 32 #[]).run Tryd.prog w = .ok (.agg (dv (List.replicate 32 0))) w := by kernel_rfl

set_option maxRecDepth 100000 in
set_option maxHeartbeats 1000000 in
theorem tree_zeroW (da : Option Addr) (cap : Nat) (l : List (List Int)) (w : World) (hl : DigsIn w w.heap.size da 0 cap l) :
    Calls Tryd.prog 34 #[.slice da 0 cap] w (TreeRes w l) := by
  have HN := Lib.hid (NewZ.new w)
  have HL := Lib.hid hl; clear hl
  have hb := build25
  have HI := Lib.hid (dv_info (List.replicate 32 0) (by simp))
  have HS := Lib.hid (dv_size32 (List.replicate 32 0) (by simp))
  go_enter Tryd.func34, Tryd.ntmps34
  go_wp2_with (generalize hw0 : World.alloc w _ = w0; have hn : NewZ w w0 := (by rw [← hw0]; exact HN.out); have HZ := Lib.hid hn; clear hw0 hn; refine wpList_store_row rfl 32 _ _ rfl w.heap.size (dv (List.replicate 32 0)) rfl rfl 32 _ HZ.out.z HI.out HS.out (dv_one _) ?_)
  refine bodyPost_ret (results_cell_row (P := Tryd.prog) rfl _ _ w.heap.size 32 (dv (List.replicate 32 0)) (0, 0) _ rfl (setRow_heap _ _ _ _ _ _ HZ.out.z) Tryd.underlying32 rfl HI.out) rfl ⟨?_, below_setRow HZ.out.b (Nat.le_refl _) _⟩
  rw [tree_zero l HL.out.len]
set_option maxRecDepth 100000 in
set_option maxHeartbeats 1000000 in
theorem tree_oneW (da : Option Addr) (cap : Nat) (l : List (List Int)) (w : World) (hl : DigsIn w w.heap.size da 1 cap l) :
    Calls Tryd.prog 34 #[.slice da 1 cap] w (TreeRes w l) := by
  have HN := Lib.hid (NewZ.new w)
  obtain ⟨b, off, rfl, hlt, hc, hr⟩ := hl.cells (by omega)
  have hr0 := range_below (hr 0 (by omega)) HN.out.b hlt
  rw [show off + 0 * 32 = off by omega] at hr0
  have hx : (l.getD 0 []).length = 32 ∧ Byt (l.getD 0 []) := by rw [← tree_one l hl.len]; exact tree_digs l hl.digs
  have HX := Lib.hid hx; have HR := Lib.hid hr0; have HL := Lib.hid hl; clear hx hr0 hl hr
  have hi : (Tryd.prog.info? 32).map (·.size) = some ((l.getD 0 []).map (Value.int .u8)).length := by rw [List.length_map, HX.out.1]; exact Tryd.info25d
  have HI := Lib.hid hi; clear hi
  have HI2 := Lib.hid (dv_info (l.getD 0 []) HX.out.1)
  have HS := Lib.hid (dv_size32 (l.getD 0 []) HX.out.1)
  go_enter Tryd.func34, Tryd.ntmps34
  go_wp2_with (first
    | (generalize hw0 : World.alloc w _ = w0; have hn : NewZ w w0 := (by rw [← hw0]; exact HN.out); have hr0 : w0.rangeAt b off ((l.getD 0 []).map (Value.int .u8)) := (by rw [← hw0]; exact HR.out); have HZ := Lib.hid hn; have HR0 := Lib.hid hr0; clear hw0 hn hr0; refine wpList_load_mid rfl 32 _ rfl b off rfl _ _ HR0.out Tryd.underlying32 rfl HI.out ?_)
    | (refine wpList_store_row rfl 32 _ _ rfl w.heap.size _ rfl rfl 32 _ HZ.out.z HI2.out HS.out (dv_one _) ?_))
  refine bodyPost_ret (results_cell_row (P := Tryd.prog) rfl _ _ w.heap.size 32 (dv (l.getD 0 [])) (0, 0) _ rfl (setRow_heap _ _ _ _ _ _ HZ.out.z) Tryd.underlying32 rfl HI2.out) rfl ⟨?_, below_setRow HZ.out.b (Nat.le_refl _) _⟩
  rw [tree_one l HL.out.len]

set_option maxRecDepth 100000 in
set_option maxHeartbeats 1000000 in
theorem tree_moreW (da : Option Addr) (n cap : Nat) (l : List (List Int)) (w : World) (hl : DigsIn w w.heap.size da n cap l) (hk : KayIn w) (hk0 : 0 < w.heap.size) (hn2 : 2 ≤ n) (hmax : n ≤ 1000000)
    (ih : ∀ (da' : Option Addr) (n' cap' : Nat) (l' : List (List Int)) (w' : World), n' < n → DigsIn w' w'.heap.size da' n' cap' l' → KayIn w' → 0 < w'.heap.size → Calls Tryd.prog 34 #[.slice da' n' cap'] w' (TreeRes w' l')) :
    Calls Tryd.prog 34 #[.slice da n cap] w (TreeRes w l) := by
  have HN := Lib.hid (NewZ.new w)
  obtain ⟨b, off, rfl, hlt, hcap, _⟩ := hl.cells (by omega)
  have hkb := kp_bound n hn2
  obtain ⟨hk1, hk2⟩ := hkb
  have HL := Lib.hid hl; have HK := Lib.hid hk; have IH := Lib.hid ih; clear hl hk ih
  have e0 : ((n : Int) == 0) = false := by simp; omega
  have e1 : ((n : Int) == 1) = false := by simp; omega
  go_enter Tryd.func34, Tryd.ntmps34
  go_wp2_with fail
  refine (leftLeaves_any n _ hn2 hmax).mono ?_
  rintro e w' ⟨rfl, rfl⟩
  generalize hw0 : World.alloc w _ = w0
  have hn : NewZ w w0 := by rw [← hw0]; exact HN.out
  have hs0 := hn.s
  have hb0 := hn.b
  have HZ := Lib.hid hn.z
  clear hw0 HN hn
  obtain ⟨k, hkk⟩ : ∃ k, k = kp n := ⟨_, rfl⟩
  rw [← hkk]
  rw [← hkk] at hk1 hk2
  have HKK := Lib.hid hkk; clear hkk
  go_wp2_with fail
  have hd : Below w.heap.size w w0.drew := hb0.drew
  have hla : DigsIn w0.drew w0.drew.heap.size (some ⟨b, off, none⟩) k cap (l.take k) := ((HL.out.below hd (Nat.le_refl _)).takes k (by omega)).below (Below.refl w0.drew.heap.size w0.drew) (by show _ ≤ w0.heap.size; omega)
  have HC1 := Lib.hid (IH.out _ _ _ _ w0.drew hk2 hla (HK.out.below hd hk0) (by show _ < w0.heap.size; omega))
  have hc2 : ∀ w5, Below w0.heap.size w0 w5 → Calls Tryd.prog 34 #[.slice (some ⟨b, off + k * 32, none⟩) (n - k) (cap - k)] w5 fun e w' => e = .returned (.agg (dv (tree (l.drop k)))) ∧ Below w0.heap.size w0 w' := by
    intro w5 hb5
    have hs5 := hb5.size
    have hbe := hb0.trans (hb5.mono (by omega))
    have hlb : DigsIn w5 w5.heap.size (some ⟨b, off + k * 32, none⟩) (n - k) (cap - k) (l.drop k) := ((HL.out.below hbe (Nat.le_refl _)).drops k (by omega)).below (Below.refl w5.heap.size w5) (by omega)
    exact (IH.out _ _ _ _ w5 (by omega) hlb (HK.out.below hbe hk0) (by omega)).mono fun e w' ⟨he, hb⟩ => ⟨he, hb5.trans (hb.mono hs5)⟩
  have HC2 := Lib.hid hc2; clear hc2
  have hc3 : ∀ w5, Below w0.heap.size w0 w5 → Calls Tryd.prog 50 #[.agg (dv (tree (l.take k))), .agg (dv (tree (l.drop k)))] w5 fun e w' => e = .returned (.agg (dg (1 :: (tree (l.take k) ++ tree (l.drop k))))) ∧ Zrow w' w.heap.size ∧ Below w.heap.size w w' := by
    intro w5 hb5
    have hs5 := hb5.size
    have hbe := hb0.trans (hb5.mono (by omega))
    have h1 := tree_digs (l.take k) (HL.out.digs.take k)
    have h2 := tree_digs (l.drop k) (HL.out.digs.drop k)
    have hz5 := HZ.out.below hb5 (by omega)
    exact (Node_any (tree (l.take k)) (tree (l.drop k)) w5 h1.1 h2.1 h1.2 h2.2 (HK.out.below hbe hk0) (by omega)).mono fun e w' ⟨he, hb⟩ => ⟨he, hz5.below hb (by omega), hbe.trans (hb.mono (by omega))⟩
  have HC3 := Lib.hid hc3; clear hc3 hd hla
  have hrefl : Below w0.heap.size w0 w0.drew := (Below.refl _ _).drew
  have hfin : dg (1 :: (tree (l.take k) ++ tree (l.drop k))) = dv (tree l) := by
    rw [tree_more l (by rw [HL.out.len]; exact hn2), HL.out.len, ← HKK.out]; rfl
  have HFIN := Lib.hid hfin; clear hfin
  go_region_with (first
    | (go_at_call 34; (with_reducible refine HC1.out.mono ?_); rintro e w5 ⟨rfl, hb5⟩; have hb5' := hrefl.trans hb5)
    | (go_at_call 34; (with_reducible refine (HC2.out w5 hb5').mono ?_); rintro e w6 ⟨rfl, hb6⟩)
    | (go_at_call 50; (with_reducible refine (HC3.out w6 hb6).mono ?_); rintro e w7 ⟨rfl, hz7, hb7⟩; have hst := store25 hz7 (1 :: (tree (l.take k) ++ tree (l.drop k)))))
  all_goals
    go_wp2
    have HZ7 := Lib.hid hz7; clear hz7
    exact bodyPost_ret (results_cell_row (P := Tryd.prog) rfl _ _ w.heap.size 32 _ (0, 0) _ rfl (setRow_heap _ _ _ _ _ _ HZ7.out) Tryd.underlying32 rfl (dg_info _)) rfl ⟨by rw [HFIN.out], below_setRow hb7 (Nat.le_refl _) _⟩

theorem Tree_any : ∀ (m : Nat) (da : Option Addr) (n cap : Nat) (l : List (List Int)) (w : World), n ≤ m → n ≤ 1000000 → DigsIn w w.heap.size da n cap l → KayIn w → 0 < w.heap.size →
    Calls Tryd.prog 34 #[.slice da n cap] w (TreeRes w l)
  | m, da, 0, cap, l, w, _, _, hl, _, _ => tree_zeroW da cap l w hl
  | m, da, 1, cap, l, w, _, _, hl, _, _ => tree_oneW da cap l w hl
  | m + 1, da, n + 2, cap, l, w, hm, hmax, hl, hk, hk0 =>
    tree_moreW da (n + 2) cap l w hl hk hk0 (by omega) hmax fun da' n' cap' l' w' hlt hl' hk' hk0' => Tree_any m da' n' cap' l' w' (by omega) (by omega) hl' hk' hk0'
end Go.Proofs.YtfehgkpmjnmpeaaDoor
