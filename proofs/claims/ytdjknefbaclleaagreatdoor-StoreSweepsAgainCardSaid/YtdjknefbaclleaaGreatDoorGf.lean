/-
  Plain mathematics, without conditions beyond those of each lemma: the root of a Merkle tree over lists of 32 bytes (no program is named here).
-/
import Derived.Test.YtdjknefbaclleaaGreatDoorGa
import Derived.Deep.RegionHeld3
namespace Go.Proofs.YtdjknefbaclleaaGreatDoor
open Go

/-- k doubled as long as its double is less than n -/
def grow (n : Nat) : Nat → Nat → Nat
  | 0, k => k
  | f + 1, k => if 2 * k < n then grow n f (2 * k) else k
/-- the greatest power of two that is less than n -/
def kp (n : Nat) : Nat := grow n n 1
theorem grow_bound (n : Nat) : ∀ f k, 1 ≤ k → k < n → 1 ≤ grow n f k ∧ grow n f k < n
  | 0, k, h1, h2 => ⟨h1, h2⟩
  | f + 1, k, h1, h2 => by
    unfold grow
    split
    · exact grow_bound n f (2 * k) (by omega) (by omega)
    · exact ⟨h1, h2⟩
theorem kp_bound (n : Nat) (h : 2 ≤ n) : 1 ≤ kp n ∧ kp n < n := grow_bound n n 1 (by omega) (by omega)
/-- what a loop that doubles k knows on its way -/
def OnWay (n k : Nat) : Prop := 1 ≤ k ∧ k < n ∧ ∃ f, n ≤ f + k ∧ grow n f k = kp n
theorem OnWay.start (n : Nat) (h : 2 ≤ n) : OnWay n 1 := ⟨by omega, by omega, n, by omega, rfl⟩
theorem OnWay.step {n k : Nat} (h : OnWay n k) (hk : 2 * k < n) : OnWay n (2 * k) := by
  obtain ⟨h1, _, f, hf, hg⟩ := h
  obtain ⟨g, rfl⟩ : ∃ g, f = g + 1 := ⟨f - 1, by omega⟩
  refine ⟨by omega, hk, g, by omega, ?_⟩
  rw [← hg]; conv => rhs; unfold grow
  rw [if_pos hk]
theorem OnWay.fin {n k : Nat} (h : OnWay n k) (hk : ¬ 2 * k < n) : k = kp n := by
  obtain ⟨_, _, f, _, hg⟩ := h
  rw [← hg]
  cases f with
  | zero => rfl
  | succ g => unfold grow; rw [if_neg hk]

def nodeB (a b : List Int) : List Int := dbytes (sha (1 :: (a ++ b))).list
def treeF : Nat → List (List Int) → List Int
  | 0, _ => List.replicate 32 0
  | f + 1, l => if l.length = 0 then List.replicate 32 0 else if l.length = 1 then l.getD 0 [] else nodeB (treeF f (l.take (kp l.length))) (treeF f (l.drop (kp l.length)))
theorem treeF_stable : ∀ (f g : Nat) (l : List (List Int)), l.length ≤ f → l.length ≤ g → treeF f l = treeF g l
  | 0, 0, _, _, _ => rfl
  | 0, g + 1, l, h, _ => by unfold treeF; rw [if_pos (by omega)]
  | f + 1, 0, l, _, h => by unfold treeF; rw [if_pos (by omega)]
  | f + 1, g + 1, l, h1, h2 => by
    unfold treeF
    by_cases h0 : l.length = 0
    · rw [if_pos h0, if_pos h0]
    · by_cases h3 : l.length = 1
      · rw [if_neg h0, if_neg h0, if_pos h3, if_pos h3]
      · rw [if_neg h0, if_neg h0, if_neg h3, if_neg h3]
        have hk := kp_bound l.length (by omega)
        rw [treeF_stable f g _ (by rw [List.length_take]; omega) (by rw [List.length_take]; omega), treeF_stable f g (l.drop _) (by rw [List.length_drop]; omega) (by rw [List.length_drop]; omega)]
/-- the root of a Merkle tree -/
def tree (l : List (List Int)) : List Int := treeF l.length l
theorem tree_zero (l : List (List Int)) (h : l.length = 0) : tree l = List.replicate 32 0 := by
  unfold tree; rw [h]; rfl
theorem tree_one (l : List (List Int)) (h : l.length = 1) : tree l = l.getD 0 [] := by
  unfold tree; rw [h]; unfold treeF; rw [if_neg (by omega), if_pos h]
theorem tree_more (l : List (List Int)) (h : 2 ≤ l.length) : tree l = nodeB (tree (l.take (kp l.length))) (tree (l.drop (kp l.length))) := by
  have hk := kp_bound l.length h
  obtain ⟨m, hm⟩ : ∃ m, l.length = m + 1 := ⟨l.length - 1, by omega⟩
  have e : tree l = treeF (m + 1) l := by unfold tree; rw [hm]
  rw [e]
  conv => lhs; unfold treeF
  rw [if_neg (by omega), if_neg (by omega)]
  unfold tree
  rw [treeF_stable m _ (l.take _) (by rw [List.length_take]; omega) (Nat.le_refl _), treeF_stable m _ (l.drop _) (by rw [List.length_drop]; omega) (Nat.le_refl _)]
theorem nodeB_length (a b : List Int) : (nodeB a b).length = 32 := by simp [nodeB, dbytes_length, St.list_length]
theorem wb_byt (x : Int) : Byt (wb x) := fun y hy => by
  simp only [wb, List.mem_cons, List.not_mem_nil, or_false] at hy
  rcases hy with rfl | rfl | rfl | rfl <;> omega
theorem dbytes_byt : ∀ l : List Int, Byt (dbytes l)
  | [] => fun x hx => by simp [dbytes] at hx
  | y :: r => (wb_byt y).append (dbytes_byt r)
theorem nodeB_byt (a b : List Int) : Byt (nodeB a b) := dbytes_byt _

/-- each is 32 bytes -/
def Digs (l : List (List Int)) : Prop := ∀ x ∈ l, x.length = 32 ∧ Byt x
theorem Digs.take {l : List (List Int)} (h : Digs l) (k : Nat) : Digs (l.take k) := fun x hx => h x (List.mem_of_mem_take hx)
theorem Digs.drop {l : List (List Int)} (h : Digs l) (k : Nat) : Digs (l.drop k) := fun x hx => h x (List.mem_of_mem_drop hx)
theorem tree_digs (l : List (List Int)) (h : Digs l) : (tree l).length = 32 ∧ Byt (tree l) := by
  by_cases h0 : l.length = 0
  · rw [tree_zero l h0]; exact ⟨by simp, Byt.zeros 32⟩
  · by_cases h1 : l.length = 1
    · rw [tree_one l h1]
      have : l.getD 0 [] ∈ l := by
        rw [List.getD_eq_getElem?_getD, List.getElem?_eq_getElem (by omega)]; exact List.getElem_mem _
      exact h _ this
    · rw [tree_more l (by omega)]; exact ⟨nodeB_length _ _, nodeB_byt _ _⟩
end Go.Proofs.YtdjknefbaclleaaGreatDoor

namespace Go.Proofs.YtdjknefbaclleaaGreatDoor
open Go.RowKit

/-- a slice of digests, all below block B -/
structure DigsIn (w : World) (B : Nat) (da : Option Addr) (n cap : Nat) (l : List (List Int)) : Prop where
  len : l.length = n
  digs : Digs l
  cells : 0 < n → ∃ b off, da = some ⟨b, off, none⟩ ∧ b < B ∧ n ≤ cap ∧ ∀ i, i < n → w.rangeAt b (off + i * 32) ((l.getD i []).map (Value.int .u8))
theorem range_below {w w' : World} {b o B : Nat} {cs : List Value} (h : w.rangeAt b o cs) (hb : Below B w w') (hlt : b < B) : w'.rangeAt b o cs := fun j v hv => (hb.cell (p := ⟨b, o + j, none⟩) hlt).trans (h j v hv)
theorem DigsIn.below {w w' : World} {B B' : Nat} {da : Option Addr} {n cap : Nat} {l : List (List Int)} (h : DigsIn w B da n cap l) (hb : Below B' w w') (hB : B ≤ B') : DigsIn w' B' da n cap l :=
  ⟨h.len, h.digs, fun hn => by
    obtain ⟨b, off, e, hlt, hc, hr⟩ := h.cells hn
    exact ⟨b, off, e, by omega, hc, fun i hi => range_below (hr i hi) hb (by omega)⟩⟩
theorem DigsIn.takes {w : World} {B : Nat} {da : Option Addr} {n cap : Nat} {l : List (List Int)} (h : DigsIn w B da n cap l) (k : Nat) (hk : k ≤ n) : DigsIn w B da k cap (l.take k) :=
  ⟨by rw [List.length_take, h.len]; omega, h.digs.take k, fun hn => by
    obtain ⟨b, off, e, hlt, hc, hr⟩ := h.cells (by omega)
    refine ⟨b, off, e, hlt, by omega, fun i hi => ?_⟩
    have := hr i (by omega)
    rw [show (l.take k).getD i [] = l.getD i [] by simp [List.getD_eq_getElem?_getD, hi]]
    exact this⟩
theorem DigsIn.drops {w : World} {B b off n cap : Nat} {l : List (List Int)} (h : DigsIn w B (some ⟨b, off, none⟩) n cap l) (k : Nat) (hk : k ≤ n) : DigsIn w B (some ⟨b, off + k * 32, none⟩) (n - k) (cap - k) (l.drop k) :=
  ⟨by rw [List.length_drop, h.len], h.digs.drop k, fun hn => by
    obtain ⟨b', off', e, hlt, hc, hr⟩ := h.cells (by omega)
    injection e with e; injection e with e1 e2; subst e1 e2
    refine ⟨b, off + k * 32, rfl, hlt, by omega, fun i hi => ?_⟩
    have := hr (k + i) (by omega)
    rw [show off + (k + i) * 32 = off + k * 32 + i * 32 by omega] at this
    rw [show (l.drop k).getD i [] = l.getD (k + i) [] by simp [List.getD_eq_getElem?_getD]]
    exact this⟩

/-- a digest as an array's value -/
def dv (x : List Int) : Array Value := (x.map (Value.int .u8)).toArray
theorem dv_node (a b : List Int) : dv (nodeB a b) = dg (1 :: (a ++ b)) := rfl
theorem dv_size (x : List Int) (h : x.length = 32) : (dv x).size = 32 := by simp [dv, h]
theorem dv_one (x : List Int) : (dv x).all (·.oneCell') = true := oneCell_map _ _
theorem dv_info (x : List Int) (h : x.length = 32) : (Tryz.prog.info? 29).map (·.size) = some (dv x).size := by rw [dv_size x h]; exact Tryz.info25d
theorem dv_size32 (x : List Int) (h : x.length = 32) : (Array.replicate 32 (Value.int .u8 0)).size = (dv x).size := by rw [dv_size x h]; simp
def TreeRes (w : World) (l : List (List Int)) (e : Ending) (w' : World) : Prop := e = .returned (.agg (dv (tree l))) ∧ Below w.heap.size w w'
theorem build25 (w : World) : (Instr.build 29 #[]).run Tryz.prog w = .ok (.agg (dv (List.replicate 32 0))) w := by kernel_rfl

end Go.Proofs.YtdjknefbaclleaaGreatDoor
