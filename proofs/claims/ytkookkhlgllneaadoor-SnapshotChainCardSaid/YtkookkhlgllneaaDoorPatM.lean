/-
  Plain mathematics, without conditions beyond those of each lemma: paths, the parts of patterns, and how a pattern takes a path byte by byte (no program is named here but for its name space).
-/
import GoSem.Claim
import Derived.Lib.SplitLaws
import Derived.Lib.Bytealg
namespace Go.Proofs.YtkookkhlgllneaaDoor
open Go

/-- a slash -/
def slB : ByteArray := ⟨#[47]⟩
/-- the components of a string -/
def seg (s : ByteArray) : List ByteArray := Lib.splitB slB 0 (Lib.countB s slB) s
theorem seg_miss (s : ByteArray) (h : Lib.indexB s slB = -1) : seg s = [s] := Lib.splitB_miss slB 0 _ s h
theorem seg_hit (s : ByteArray) (i : Nat) (h : Lib.indexB s slB = i) : seg s = s.extract 0 i :: seg (s.extract (i + 1) s.size) := by
  unfold seg
  rw [Lib.countB_hit s slB i (by decide) h, Nat.add_comm 1, Lib.splitB_hit slB 0 _ s i h]
  rfl
/-- a component that a path may have -/
def goodB (x : ByteArray) : Bool := !(x.toList == []) && !(x.toList == [46]) && !(x.toList == [46, 46])
/-- whether a string is a path -/
def pathB (s : ByteArray) : Bool := decide (s.size ≤ 200) && decide (Lib.indexByte s.data.toList 0 < 0) && (seg s).all goodB

/-- a part of a pattern: its kind, its sample -/
abbrev Pt := Nat × Int
def seqP (p : Pt) : Bool := decide (2 ≤ p.1)
def tkP (p : Pt) (c : Int) : Bool := if p.1 = 0 then c == p.2 else if p.1 = 3 then true else c != 47
/-- the parts of a pattern's text, none if it is no pattern's -/
def rdP : List UInt8 → Option (List Pt)
  | [] => some []
  | x :: r =>
    if x = 92 then
      match r with
      | [] => none
      | y :: r' => (rdP r').map (((0, (y.toNat : Int)) : Pt) :: ·)
    else if x = 42 then
      match r with
      | [] => some [(2, 120)]
      | y :: r' => if y = 42 then (rdP r').map (((3, 120) : Pt) :: ·) else (rdP (y :: r')).map (((2, 120) : Pt) :: ·)
    else if x = 63 then (rdP r).map (((1, 120) : Pt) :: ·)
    else (rdP r).map (((0, (x.toNat : Int)) : Pt) :: ·)
def patL (l : List UInt8) : Option (List Pt) := if l = [] ∨ 200 < l.length ∨ ¬ Lib.indexByte l 0 < 0 then none else rdP l

/-- one byte more: whether the parts before part i may end with it; what is then known of part i -/
def arr (ps : List Pt) (old : List Bool) (c : Int) : Nat → Bool
  | 0 => false
  | i + 1 => if seqP (ps.getD i (0, 0)) then arr ps old c i || (old.getD i false && tkP (ps.getD i (0, 0)) c) else old.getD i false && tkP (ps.getD i (0, 0)) c
def nvc (ps : List Pt) (old : List Bool) (c : Int) (i : Nat) : Bool := if decide (i < ps.length) && seqP (ps.getD i (0, 0)) then arr ps old c (i + 1) else arr ps old c i
def advL (ps : List Pt) (old : List Bool) (c : Int) : List Bool := (List.range (ps.length + 1)).map (nvc ps old c)
def ini (ps : List Pt) (i : Nat) : Bool := (List.range i).all fun j => seqP (ps.getD j (0, 0))
def iniL (ps : List Pt) : List Bool := (List.range (ps.length + 1)).map (ini ps)
def runL (ps : List Pt) (l : List UInt8) : List Bool := l.foldl (fun v c => advL ps v (c.toNat : Int)) (iniL ps)
def concB (ps : List Pt) (l : List UInt8) : Bool := (runL ps l).getD ps.length false
def mtB (p : ByteArray) (s : ByteArray) : Bool := match patL p.data.toList with
  | none => false
  | some ps => pathB s && concB ps s.data.toList
theorem advL_length (ps : List Pt) (old : List Bool) (c : Int) : (advL ps old c).length = ps.length + 1 := by simp [advL]
theorem iniL_length (ps : List Pt) : (iniL ps).length = ps.length + 1 := by simp [iniL]
theorem runL_length (ps : List Pt) (l : List UInt8) : (runL ps l).length = ps.length + 1 := by
  unfold runL
  cases h : l.reverse with
  | nil => have : l = [] := by simpa using h
           subst this; exact iniL_length ps
  | cons c r =>
    have : l = r.reverse ++ [c] := by have := congrArg List.reverse h; simpa using this
    subst this
    rw [List.foldl_append]
    exact advL_length _ _ _
theorem runL_snoc (ps : List Pt) (l : List UInt8) (c : UInt8) : runL ps (l ++ [c]) = advL ps (runL ps l) (c.toNat : Int) := by unfold runL; rw [List.foldl_append]; rfl
/-- the row on the way through the parts -/
def wayA (ps : List Pt) (old : List Bool) (c : Int) (k : Nat) : List Bool := (List.range k).map (nvc ps old c) ++ old.drop k
theorem wayA_zero (ps : List Pt) (old : List Bool) (c : Int) : wayA ps old c 0 = old := rfl
theorem wayA_length (ps : List Pt) (old : List Bool) (c : Int) (k : Nat) (ho : old.length = ps.length + 1) (hk : k ≤ ps.length + 1) : (wayA ps old c k).length = ps.length + 1 := by
  unfold wayA; rw [List.length_append, List.length_map, List.length_range, List.length_drop]; omega
theorem wayA_get (ps : List Pt) (old : List Bool) (c : Int) (k : Nat) : (wayA ps old c k).getD k false = old.getD k false := by
  unfold wayA
  rw [List.getD_eq_getElem?_getD, List.getD_eq_getElem?_getD, List.getElem?_append_right (by simp), List.length_map, List.length_range, Nat.sub_self, List.getElem?_drop, Nat.add_zero]
theorem wayA_set (ps : List Pt) (old : List Bool) (c : Int) (k : Nat) (hk : k < old.length) : (wayA ps old c k).set k (nvc ps old c k) = wayA ps old c (k + 1) := by
  unfold wayA
  rw [List.set_append_right _ _ (by simp), List.length_map, List.length_range, Nat.sub_self, List.drop_eq_getElem_cons hk, List.range_succ, List.map_append, List.append_assoc]
  rfl
theorem wayA_end (ps : List Pt) (old : List Bool) (c : Int) (ho : old.length = ps.length + 1) : wayA ps old c (ps.length + 1) = advL ps old c := by
  unfold wayA advL
  rw [List.drop_eq_nil_of_le (by omega), List.append_nil]
theorem nvc_seq {ps : List Pt} {old : List Bool} {c : Int} {i : Nat} (hi : i < ps.length) (h : seqP (ps.getD i (0, 0)) = true) : nvc ps old c i = (arr ps old c i || (old.getD i false && tkP (ps.getD i (0, 0)) c)) ∧ arr ps old c (i + 1) = nvc ps old c i := by
  have e : nvc ps old c i = arr ps old c (i + 1) := by unfold nvc; rw [h, decide_eq_true hi]; rfl
  refine ⟨?_, e.symm⟩
  rw [e]; show (if _ then _ else _) = _; rw [if_pos h]
theorem nvc_one {ps : List Pt} {old : List Bool} {c : Int} {i : Nat} (h : seqP (ps.getD i (0, 0)) = false) : nvc ps old c i = arr ps old c i ∧ arr ps old c (i + 1) = (old.getD i false && tkP (ps.getD i (0, 0)) c) := by
  refine ⟨by unfold nvc; rw [h, Bool.and_false]; rfl, ?_⟩
  show (if _ then _ else _) = _
  rw [if_neg (by rw [h]; simp)]
theorem nvc_last (ps : List Pt) (old : List Bool) (c : Int) : nvc ps old c ps.length = arr ps old c ps.length := by
  unfold nvc; rw [decide_eq_false (by omega)]; rfl
theorem ini_zero (ps : List Pt) : ini ps 0 = true := rfl
theorem ini_succ (ps : List Pt) (i : Nat) : ini ps (i + 1) = (ini ps i && seqP (ps.getD i (0, 0))) := by unfold ini; rw [List.range_succ, List.all_append]; simp
/-- the first row on the way: what is filled so far, then false -/
def wayI (ps : List Pt) (k : Nat) : List Bool := (List.range k).map (ini ps) ++ List.replicate (ps.length + 1 - k) false
theorem wayI_length (ps : List Pt) (k : Nat) (hk : k ≤ ps.length + 1) : (wayI ps k).length = ps.length + 1 := by
  unfold wayI; rw [List.length_append, List.length_map, List.length_range, List.length_replicate]; omega
theorem wayI_set (ps : List Pt) (k : Nat) (hk : k < ps.length + 1) : (wayI ps k).set k (ini ps k) = wayI ps (k + 1) := by
  unfold wayI
  rw [List.set_append_right _ _ (by simp), List.length_map, List.length_range, Nat.sub_self, show ps.length + 1 - k = (ps.length + 1 - (k + 1)) + 1 by omega, List.replicate_succ, List.range_succ, List.map_append, List.append_assoc]
  rfl
theorem wayI_get (ps : List Pt) (k i : Nat) (hi : i < k) : (wayI ps k).getD i false = ini ps i := by
  unfold wayI
  rw [List.getD_eq_getElem?_getD, List.getElem?_append_left (by simpa using hi)]
  simp [hi]
theorem wayI_end (ps : List Pt) : wayI ps (ps.length + 1) = iniL ps := by
  unfold wayI iniL; simp
end Go.Proofs.YtkookkhlgllneaaDoor
