/-
  Values of entries and changes; two digests compared; the walks of the small functions of package snapshot: idle, needsFile, entryPath, changePath (condition: digests have 32 bytes).
-/
import Derived.Test.YtecllfbadciaoaaGreatDoorZip
import Derived.Test.YtecllfbadciaoaaGreatDoorQ3
import Derived.RangeFuncNested
import Derived.RangeFuncBound
import Derived.RangeFuncCalls
import Derived.RangeFuncLeaves
import Derived.OwnWalkIn
import Derived.TacticsInMore
import Derived.LoopNIn
import Derived.LoopIn
import Derived.RangeFuncFrom
set_option maxRecDepth 100000
set_option maxHeartbeats 8000000
namespace Go.Proofs.YtecllfbadciaoaaGreatDoor
open Go.RowKit
def enL (x : En) : List Value := Value.string x.p :: x.d.map (Value.int .u8)
def cgL (x : Cg) : List Value := Value.string x.p :: (x.o.map (Value.int .u8) ++ x.n.map (Value.int .u8))
def OkE (x : En) : Prop := D32 x.d
def OkC (x : Cg) : Prop := D32 x.o ∧ D32 x.n
theorem enL_length {x : En} (h : OkE x) : (enL x).length = 33 := by unfold enL; rw [List.length_cons, List.length_map, h.1]
theorem cgL_length {x : Cg} (h : OkC x) : (cgL x).length = 65 := by unfold cgL; rw [List.length_cons, List.length_append, List.length_map, List.length_map, h.1.1, h.2.1]
theorem enL_one (x : En) : ∀ u ∈ enL x, u.oneCell' = true := fun u hu => by
 rcases List.mem_cons.1 hu with rfl | hu
 ·rfl
 ·obtain ⟨i, _, rfl⟩ := List.mem_map.1 hu; rfl
theorem infoE : (Tryz.prog.info? 82).map (·.size) = some 33 := by kernel_rfl
def CgB (w : World) (b : Nat) (x : Cg) : Prop := w.heap[b]? = some (.cells (cgL x).toArray 86 (0, 0))
def EnB (w : World) (b : Nat) (x : En) : Prop := w.heap[b]? = some (.cells (enL x).toArray 82 (0, 0))
theorem CgB.p {w : World} {b : Nat} {x : Cg} (h : CgB w b x) : w.cell? ⟨b, 0, none⟩ = some (.string x.p) := by rw [cell_of_row w b 0 _ _ _ h]; rfl
theorem CgB.o {w : World} {b : Nat} {x : Cg} (h : CgB w b x) : w.rangeAt b 1 (x.o.map (Value.int .u8)) := range_row (pre := [.string x.p]) h rfl rfl
theorem CgB.n {w : World} {b : Nat} {x : Cg} (h : CgB w b x) (hx : OkC x) : w.rangeAt b 33 (x.n.map (Value.int .u8)) := range_row (pre := .string x.p :: x.o.map (Value.int .u8)) (post := []) h (by simp [cgL]) (by rw [List.length_cons, List.length_map, hx.1.1])
theorem EnB.p {w : World} {b : Nat} {x : En} (h : EnB w b x) : w.cell? ⟨b, 0, none⟩ = some (.string x.p) := by rw [cell_of_row w b 0 _ _ _ h]; rfl
theorem EnB.d {w : World} {b : Nat} {x : En} (h : EnB w b x) : w.rangeAt b 1 (x.d.map (Value.int .u8)) := range_row (pre := [.string x.p]) (post := []) h (by simp [enL]) rfl
theorem CgB.all {w : World} {b : Nat} {x : Cg} (h : CgB w b x) : w.rangeAt b 0 (cgL x) := range_row (pre := []) (post := []) h (by simp) rfl
theorem EnB.all {w : World} {b : Nat} {x : En} (h : EnB w b x) : w.rangeAt b 0 (enL x) := range_row (pre := []) (post := []) h (by simp) rfl
theorem CgB.new (w : World) (x : Cg) : CgB (w.alloc (.cells (cgL x).toArray 86)) w.heap.size x := heap_alloc_new w _
theorem EnB.new (w : World) (x : En) : EnB (w.alloc (.cells (enL x).toArray 82)) w.heap.size x := heap_alloc_new w _
theorem CgB.below {w w' : World} {B b : Nat} {x : Cg} (h : CgB w b x) (hb : Below B w w') (hlt : b < B) : CgB w' b x := (hb.block b hlt).trans h
theorem EnB.below {w w' : World} {B b : Nat} {x : En} (h : EnB w b x) (hb : Below B w w') (hlt : b < B) : EnB w' b x := (hb.block b hlt).trans h
theorem info_e {x : En} (h : OkE x) : (Tryz.prog.info? 82).map (·.size) = some (enL x).length := by rw [enL_length h]; exact infoE
def zE : List Value := [.string ⟨#[]⟩] ++ List.replicate 32 (.int .u8 0)
theorem zeroE : (Tryz.prog.info? 82).map (·.zero) = some (some (.agg zE.toArray)) := by kernel_rfl
theorem buildE (p : ByteArray) (d : List Int) (hd : d.length = 32) (w : World) :
 (Instr.build 82 #[(0, .string p), (1, .agg (d.map (Value.int .u8)).toArray)]).run Tryz.prog w = .ok (.agg (enL ⟨p, d⟩).toArray) w := by
 refine run_build w _ _ _ ?_
 rw [built_fill zeroE Tryz.underlying82 (places := [(0, 1), (1, 32)]) (by kernel_rfl)]
 show Instr.fill _ ([] ++ ([Value.string ⟨#[]⟩] ++ List.replicate 32 (Value.int .u8 0))).toArray [(0, Value.string p), (1, .agg (d.map (Value.int .u8)).toArray)] = _
 rw [fill_put [Value.string p] [] [Value.string ⟨#[]⟩] (List.replicate 32 (Value.int .u8 0)) (off := 0) (sz := 1) rfl (str_cells p) rfl rfl rfl, List.nil_append]
 rw [show [Value.string p] ++ List.replicate 32 (Value.int .u8 0) = [Value.string p] ++ (List.replicate 32 (Value.int .u8 0) ++ []) by simp]
 rw [fill_put (d.map (Value.int .u8)) [Value.string p] (List.replicate 32 (Value.int .u8 0)) [] rfl rfl (by simp [hd]) rfl (by simp)]
 simp [Instr.fill, enL]
theorem sliceE (w : World) (x : En) (hx : OkE x) : (Instr.buildSlice 29 1 #[(0, .agg (enL x).toArray)]).run Tryz.prog w = .ok (.slice (some ⟨w.heap.size, 0, none⟩) 1 1) (w.alloc (.cells (enL x).toArray 82)) := by
 have h := enL_length hx
 have hz := zeroE
 have hi := infoE
 cases hie : Tryz.prog.info? 82 with
 | none => rw [hie] at hi; cases hi
 | some ie =>
   rw [hie] at hi hz
   exact slice_one w _ _ _ ie _ Tryz.underlying29 hie (by injection hz) (by rw [h]; injection hi) (by omega) (by omega)
theorem entryPath_any (x : En) (w : World) :
 Calls Tryz.prog 84 #[.agg (enL x).toArray] w fun e w' => e = .returned (.string x.p) ∧ Below w.heap.size w w' := by
 have hr := (EnB.new w x).p
 have HB := zh ((Below.refl w.heap.size w).alloc (Nat.le_refl _) (.cells (enL x).toArray 82))
 go_enter Tryz.func84, Tryz.ntmps84
 go_wp2_with fail
 go_ret
 exact ⟨rfl, HB.out⟩
end Go.Proofs.YtecllfbadciaoaaGreatDoor
namespace Go.Proofs.YtecllfbadciaoaaGreatDoor
open Go
def slB : ByteArray := ⟨#[47]⟩
def seg (s : ByteArray) : List ByteArray := Lib.splitB slB 0 (Lib.countB s slB) s
theorem seg_miss (s : ByteArray) (h : Lib.indexB s slB = -1) : seg s = [s] := Lib.splitB_miss slB 0 _ s h
theorem seg_hit (s : ByteArray) (i : Nat) (h : Lib.indexB s slB = i) : seg s = s.extract 0 i :: seg (s.extract (i + 1) s.size) := by
 unfold seg
 rw [Lib.countB_hit s slB i (by decide) h, Nat.add_comm 1, Lib.splitB_hit slB 0 _ s i h]
 rfl
def goodB (x : ByteArray) : Bool := !(x.toList == []) && !(x.toList == [46]) && !(x.toList == [46, 46])
def pathB (s : ByteArray) : Bool := decide (s.size ≤ 200) && decide (Lib.indexByte s.data.toList 0 < 0) && (seg s).all goodB
end Go.Proofs.YtecllfbadciaoaaGreatDoor
namespace Go.Proofs.YtecllfbadciaoaaGreatDoor
open Go.RowKit
theorem indexByteLite_anyP (s : ByteArray) (c : Int) (w : World) :
 Calls Tryz.prog 126 #[.string s, .int .u8 c] w fun e w' => e = .returned (.int .i64 (Lib.indexByte s.data.toList c.toNat.toUInt8)) ∧ w = w' := by
 go_enter Tryz.func126, Tryz.ntmps126
 go_wp2
 rw [run_callFunc_extern Tryz.func141 (by kernel_rfl) (by kernel_rfl) (by kernel_rfl) (e := Extern.BytealgIndexByte.indexByte) (by kernel_rfl), Lib.run_indexByteString]
 simp only [Result.andThen]
 rw [Oper.upon_value]
 go_wp2
 go_ret
 exact ⟨rfl, rfl⟩
theorem indexByte_anyP (s : ByteArray) (c : Int) (w : World) :
 Calls Tryz.prog 106 #[.string s, .int .u8 c] w fun e w' => e = .returned (.int .i64 (Lib.indexByte s.data.toList c.toNat.toUInt8)) ∧ w = w' := by
 go_enter Tryz.func106, Tryz.ntmps106
 go_wp2_with (go_at_call 126; refine (indexByteLite_anyP _ _ _).mono ?_; rintro e w' ⟨rfl, rfl⟩)
 go_ret
 exact ⟨rfl, rfl⟩
theorem indexB_one (s : ByteArray) : Lib.indexB s slB = Lib.indexByte s.data.toList 47 := by
 show Lib.index s.data.toList [47] = _
 exact Lib.index_one _ _
theorem indexLite_anyP (s : ByteArray) (w : World) :
 Calls Tryz.prog 131 #[.string s, .string slB] w fun e w' => e = .returned (.int .i64 (Lib.indexB s slB)) ∧ w = w' := by
 have hsz : slB.size = 1 := rfl
 rw [indexB_one]
 by_cases h : (slB.toList == s.toList) = true
 ·have hl : s.data.toList = [47] := by rw [beq_iff_eq, Lib.toList_data, Lib.toList_data] at h; exact h.symm
  have HI : Hid (Lib.indexByte s.data.toList 47 = 0) := by show _ = _; rw [hl]; rfl
  clear hl
  go_enter Tryz.func131, Tryz.ntmps131
  go_wp2_with fail
  go_ret
  exact ⟨by rw [HI.out]; rfl, rfl⟩
 ·have h : (slB.toList == s.toList) = false := by simpa using h
  go_enter Tryz.func131, Tryz.ntmps131
  go_wp2_with (go_at_call 126; refine (indexByteLite_anyP _ _ _).mono ?_; rintro e w' ⟨rfl, rfl⟩)
  go_ret
  exact ⟨rfl, rfl⟩
theorem index_anyP (s : ByteArray) (w : World) :
 Calls Tryz.prog 129 #[.string s, .string slB] w fun e w' => e = .returned (.int .i64 (Lib.indexB s slB)) ∧ w = w' := by
 go_enter Tryz.func129, Tryz.ntmps129
 go_wp2_with (go_at_call 131; refine (indexLite_anyP _ _).mono ?_; rintro e w' ⟨rfl, rfl⟩)
 go_ret
 exact ⟨rfl, rfl⟩
theorem splitSeqIn_any (s : ByteArray) (w : World) :
 Calls Tryz.prog 153 #[.string s, .string slB, .int .i64 0] w fun e w' => e = .returned (.func (.func 159) #[] #[.pointer (some ⟨w.heap.size + 1, 0, none⟩), .pointer (some ⟨w.heap.size, 0, none⟩), .pointer (some ⟨w.heap.size + 2, 0, none⟩)]) ∧
  w' = ((w.alloc (.cells #[.string s] 9)).alloc (.cells #[.string slB] 9)).alloc (.cells #[.int .i64 0] 3) := by
 go_enter Tryz.func153, Tryz.ntmps153
 go_wp2
 go_ret
 exact ⟨rfl, rfl⟩
theorem splitSeq_any (s : ByteArray) (w : World) :
 Calls Tryz.prog 136 #[.string s, .string slB] w fun e w' => e = .returned (.func (.func 159) #[] #[.pointer (some ⟨w.heap.size + 1, 0, none⟩), .pointer (some ⟨w.heap.size, 0, none⟩), .pointer (some ⟨w.heap.size + 2, 0, none⟩)]) ∧
  w' = ((w.alloc (.cells #[.string s] 9)).alloc (.cells #[.string slB] 9)).alloc (.cells #[.int .i64 0] 3) := by
 go_enter Tryz.func136, Tryz.ntmps136
 go_wp2_with (go_at_call 153; refine (splitSeqIn_any _ _).mono ?_; rintro e w' ⟨rfl, rfl⟩)
 go_ret
 exact ⟨rfl, rfl⟩
def restN (c : Nat) (wr : World) : Nat := match wr.cell? ⟨c, 0, none⟩ with
 | some (.string r) => r.size
 | _ => 0
structure SpIn (W : World) (cs ce cv : Nat) (r : ByteArray) : Prop where
 s : W.cell? ⟨cs, 0, none⟩ = some (.string r)
 f : W.frozen? ⟨cs, 0, none⟩ = false
 e : W.cell? ⟨ce, 0, none⟩ = some (.string slB)
 v : W.cell? ⟨cv, 0, none⟩ = some (.int .i64 0)
def Same3 (cs ce cv : Nat) (W W' : World) : Prop := W'.heap[cs]? = W.heap[cs]? ∧ W'.heap[ce]? = W.heap[ce]? ∧ W'.heap[cv]? = W.heap[cv]?
theorem SpIn.same {W W' : World} {cs ce cv : Nat} {r : ByteArray} (h : SpIn W cs ce cv r) (hb : Same3 cs ce cv W W') : SpIn W' cs ce cv r :=
 ⟨(World.cell?_of_block (a := ⟨cs, 0, none⟩) hb.1).trans h.s, (World.frozen?_of_block (a := ⟨cs, 0, none⟩) hb.1).trans h.f, (World.cell?_of_block (a := ⟨ce, 0, none⟩) hb.2.1).trans h.e, (World.cell?_of_block (a := ⟨cv, 0, none⟩) hb.2.2).trans h.v⟩
theorem SpIn.put {W : World} {cs ce cv : Nat} {r : ByteArray} (h : SpIn W cs ce cv r) (x : ByteArray) (h1 : cs ≠ ce) (h2 : cs ≠ cv) : SpIn (W.setCell ⟨cs, 0, none⟩ (.string x)) cs ce cv x :=
 ⟨World.cell?_setCell_same' _ _ _ (by rw [h.s]; rfl), by rw [World.frozen?_setCell]; exact h.f, by rw [World.cell?_setCell_other _ _ _ _ (by intro e; injection e with e1; exact h1 e1)]; exact h.e, by rw [World.cell?_setCell_other _ _ _ _ (by intro e; injection e with e1; exact h2 e1)]; exact h.v⟩
theorem split1_in (n l cs ce cv : Nat) (s : ByteArray) (J Jx : List ByteArray → World → Prop) (hss : s.size ≤ 1000000) (hne1 : cs ≠ ce) (hne2 : cs ≠ cv)
 (hJ : ∀ pre W v, J pre W → J pre (W.setCell ⟨cs, 0, none⟩ v))
 (hY : ∀ pre x W, J pre W → YieldAt Fence.wide (n - 1) Tryz.prog l #[.string x] W fun e W' => (e = .returned (.bool true) ∧ J (pre ++ [x]) W' ∧ Same3 cs ce cv W W') ∨ (e = .returned (.bool false) ∧ Jx (pre ++ [x]) W'))
 (W : World) (hc : SpIn W cs ce cv s) (h0 : J [] W) :
 CallsIn Fence.wide n Tryz.prog 159 #[.func (.yield l) #[] #[], .pointer (some ⟨ce, 0, none⟩), .pointer (some ⟨cs, 0, none⟩), .pointer (some ⟨cv, 0, none⟩)] W fun e W' =>
  (∃ v, e = .returned v) ∧ (J (seg s) W' ∨ ∃ pre, pre <+: seg s ∧ Jx pre W') := by
 refine callsIn_of_wp Tryz.func159 rfl trivial ?_ rfl
 simp only [Tryz.ntmps159, List.size_toArray, List.length_cons, List.length_nil, Nat.reduceAdd, Nat.reduceSub, Array.replicate_succ, Array.replicate_zero, List.push_toArray, List.append_toArray, List.nil_append, List.cons_append]
 have he := hc.e
 have hsz : slB.size = 1 := rfl
 gi_wp2
 gi_loopw [7] (fun _ wr => ∃ (pre : List ByteArray) (r : ByteArray), r.size ≤ 1000000 ∧ SpIn wr cs ce cv r ∧ Hid (seg s = pre ++ seg r) ∧ J pre wr) (fun _ wr => restN cs wr)
 case atStart => exact ⟨[], s, hss, hc, rfl, h0⟩
 case round =>
  obtain ⟨pre, r, hrs, hcr, hsg, hj⟩ := hrel
  have he := hcr.e
  have hsr := hcr.s
  have hvr := hcr.v
  have hfr := hcr.f
  rcases Lib.indexB_cases r slB with hix | ⟨i, hix, hroom⟩
  ·have hlast := seg_miss r hix
   have HI := zh hix
   obtain ⟨fn, tmps, assign, body, hy, hR⟩ := hY pre r wr hj
   have hlt : decide ((-1 : Int) < 0) = true := by decide
   clear hix
   gi_wp2_with fail
   refine ⟨trivial, (fun h => by cases h), ?_⟩
   refine (callsIn_wide.2 (index_anyP r _)).mono ?_
   rintro e w' ⟨rfl, rfl⟩
   rw [HI.out]
   gi_wp2
   refine ⟨(fun h => by cases h), hR.mono ?_⟩
   rintro e W3 (⟨rfl, hJ3, hk3⟩ | ⟨rfl, hJx3⟩)
   ·gi_wp2
    go_end0
    exact ⟨⟨_, rfl⟩, .inl (by rw [hsg.out, hlast]; exact hJ3)⟩
   ·gi_wp2
    go_end0
    exact ⟨⟨_, rfl⟩, .inr ⟨pre ++ [r], by rw [hsg.out, hlast]; exact List.prefix_refl _, hJx3⟩⟩
  ·have HS : Hid (seg r = r.extract 0 i :: seg (r.extract (i + 1) r.size)) := seg_hit r i hix
   have HI := zh hix
   obtain ⟨fn, tmps, assign, body, hy, hR⟩ := hY pre (r.extract 0 i) wr hj
   have hr1 : i + 1 ≤ r.size := hroom
   have c0 : decide ((i : Int) < 0) = false := by simp
   have c1 : (0 : Int) ≤ (i : Int) := by omega
   have c2 : (i : Int) ≤ (r.size : Int) := by omega
   have c3 : (0 : Int) ≤ (i : Int) + 1 := by omega
   have c4 : (i : Int) + 1 ≤ (r.size : Int) := by omega
   have c5 : ((i : Int) + 1).toNat = i + 1 := by omega
   clear hix hroom
   gi_wp2_with fail
   refine ⟨trivial, (fun h => by cases h), ?_⟩
   refine (callsIn_wide.2 (index_anyP r _)).mono ?_
   rintro e w' ⟨rfl, rfl⟩
   rw [HI.out]
   gi_wp2
   refine ⟨(fun h => by cases h), hR.mono ?_⟩
   rintro e W3 (⟨rfl, hJ3, hk3⟩ | ⟨rfl, hJx3⟩)
   ·have hc3 := hcr.same hk3
    have HC3 := zh (hc3.put (r.extract (i + 1) r.size) hne1 hne2)
    have HJ3 := zh (hJ _ _ (.string (r.extract (i + 1) r.size)) hJ3)
    have HM : Hid (restN cs (W3.setCell ⟨cs, 0, none⟩ (.string (r.extract (i + 1) r.size))) < restN cs wr) := by
     show _ < _
     unfold restN
     rw [(hc3.put (r.extract (i + 1) r.size) hne1 hne2).s, hsr]
     show (r.extract (i + 1) r.size).size < r.size
     rw [ByteArray.size_extract]; omega
    have he3 := hc3.e
    have hs3 := hc3.s
    have hf3 := hc3.f
    have hrl : (r.extract (i + 1) r.size).size ≤ 1000000 := by rw [ByteArray.size_extract]; omega
    clear hj hJ3 hc3
    gi_wp2
    go_roundw
    case rel => exact ⟨pre ++ [r.extract 0 i], _, hrl, HC3.out, by show _ = _; rw [hsg.out, HS.out, List.append_assoc]; rfl, HJ3.out⟩
    case measure => exact HM.out
   ·gi_wp2
    refine bodyPost_ret (results_none rfl _ _ _) rfl ?_
    exact ⟨⟨_, rfl⟩, .inr ⟨pre ++ [r.extract 0 i], ⟨seg (r.extract (i + 1) r.size), by rw [hsg.out, HS.out, List.append_assoc]; rfl⟩, hJx3⟩⟩
def Tail (cs : Nat) (W W' : World) : Prop := W.heap.size ≤ W'.heap.size ∧ ∀ k, cs ≤ k → k < W.heap.size → W'.heap[k]? = W.heap[k]?
def spPost (cs : Nat) (I Ix : List ByteArray → World → Prop) (xs : List ByteArray) (W : World) : Exit → Act → World → Prop
 | .normal, _, W' => Tail cs W W' ∧ I xs W'
 | .ret, _, W' => Tail cs W W' ∧ Ix xs W'
 | _, _, _ => False
theorem below_put (B : Nat) (W : World) (l : Nat) (o : Obj) (hB : B ≤ l) : Below B W (W.putObj l o) := ⟨rfl, rfl, rfl, by simp, fun k hk => World.putObj_heap_other (by omega)⟩
theorem below_set (B : Nat) (W : World) (c : Nat) (v : Value) (hB : B ≤ c) : Below B W (W.setCell ⟨c, 0, none⟩ v) := (Below.refl B W).setCell (p := ⟨c, 0, none⟩) hB v
theorem wpIn_split {n : Nat} {p : Tmp} {g : Operand} {assign body : Code} {Q : Exit → Act → World → Prop} {a : Act} {w : World} (cs ce cv : Nat) (s : ByteArray) (hss : s.size ≤ 1000000)
 (hg : a.eval g = .func (.func 159) #[] #[.pointer (some ⟨ce, 0, none⟩), .pointer (some ⟨cs, 0, none⟩), .pointer (some ⟨cv, 0, none⟩)])
 (hc : SpIn w cs ce cv s) (h1 : cs < ce) (h2 : cs < cv) (h3 : ce < w.heap.size) (h4 : cv < w.heap.size)
 (I Ix : List ByteArray → World → Prop) (hI : ∀ xs W W', I xs W → Below cs W W' → I xs W') (hIx : ∀ xs W W', Ix xs W → Below cs W W' → Ix xs W') (h0 : I [] w) (act : ByteArray → Act)
 (hassign : ∀ (l : Nat) (x : ByteArray) (W : World) (K : Act → World → Prop), K (act x) W →
  assign.wpIn (Fence.wide.inRound l) (n - 1 - 1) Tryz.prog (Exit.then K (fun _ _ _ => False)) { tmps := (#[p].zip #[Value.string x]).foldl (fun t (q, v) => t.setIfInBounds q v) a.tmps, defers := [] } W)
 (hbody : ∀ (l : Nat) (pre : List ByteArray) (x : ByteArray) (W : World), I pre W → cs < W.heap.size → body.wpIn (Fence.wide.inRound l) (n - 1 - 1) Tryz.prog (spPost cs I Ix (pre ++ [x]) W) (act x) W)
 (hdone : ∀ (D : Nat) (W : World), w.heap.size ≤ D → I (seg s) W → W.heap[D]? = some (.deferred (some [])) → Q .normal { a with defers := { target := .collected D, args := #[] } :: a.defers } W)
 (hstop : ∀ (D : Nat) (pre : List ByteArray) (W : World), w.heap.size ≤ D → pre <+: seg s → Ix pre W → W.heap[D]? = some (.deferred (some [])) → Code.ret.wpIn Fence.wide n Tryz.prog Q { a with defers := { target := .collected D, args := #[] } :: a.defers } W) :
 (Code.rangeFunc g #[p] assign body).wpIn Fence.wide n Tryz.prog Q a w := by
 refine wpIn_rangeFunc (fun fn _ => ?_)
 obtain ⟨D, hD⟩ : ∃ D, w.heap.size = D := ⟨_, rfl⟩
 obtain ⟨r, hr⟩ : ∃ r : LoopState → Option Code → Obj, r = fun st pe => .loop { state := st, pending := pe, fn := fn, tmps := a.tmps, params := #[p], assign := assign, body := body, defers := D } := ⟨_, rfl⟩
 obtain ⟨V, hV⟩ : ∃ V, (w.alloc (.deferred (some []))).alloc (r .ready none) = V := ⟨_, rfl⟩
 have v1 : V.heap[D + 1]? = some (r .ready none) := by
  rw [← hV, ← hD]; have := World.alloc_heap_new (w.alloc (.deferred (some []))) (r .ready none); rwa [World.size_alloc] at this
 have v0 : V.heap[D]? = some (.deferred (some [])) := by
  rw [← hV, ← hD]; exact (Below.heap_alloc _ _ _ (by simp)).trans (World.alloc_heap_new w _)
 have vb : Below w.heap.size w V := by rw [← hV]; exact ((Below.refl _ w).alloc (Nat.le_refl _) _).alloc (by simp) _
 refine ⟨D + 1, [{ target := .collected D, args := #[] }], V, { target := .fn (.func 159) #[.pointer (some ⟨ce, 0, none⟩), .pointer (some ⟨cs, 0, none⟩), .pointer (some ⟨cv, 0, none⟩)], args := #[.func (.yield (D + 1)) #[] #[]] }, V, 159,
  #[.func (.yield (D + 1)) #[] #[], .pointer (some ⟨ce, 0, none⟩), .pointer (some ⟨cs, 0, none⟩), .pointer (some ⟨cv, 0, none⟩)], V, ?_, ?_, fun _ _ => trivial, ?_, (fun h => by cases h), ?_⟩
 ·rw [← hV, ← hD, hr, ← hD]; exact run_enterLoop_outer _ _ _ _ _
 ·simp only [resolve, hg]; simp [go_sem]
 ·simp [invoke, go_sem]
 have ready : ∀ st pe, (r st pe) = .loop { state := st, pending := pe, fn := fn, tmps := a.tmps, params := #[p], assign := assign, body := body, defers := D } := fun st pe => by rw [hr]
 have hI0 : I [] V := hI _ _ _ h0 (vb.mono (by omega))
 refine (split1_in (n - 1) (D + 1) cs ce cv s
  (fun pre W => I pre W ∧ W.heap[D + 1]? = some (r .ready none) ∧ W.heap[D]? = some (.deferred (some [])))
  (fun pre W => Ix pre W ∧ W.heap[D + 1]? = some (r .done (some .ret)) ∧ W.heap[D]? = some (.deferred (some [])))
  hss (by omega) (by omega)
  (fun pre W v hj => ⟨hI _ _ _ hj.1 (below_set cs W cs v (Nat.le_refl _)), (Below.heap_setCell W ⟨cs, 0, none⟩ v (D + 1) (by show D + 1 ≠ cs; omega)).trans hj.2.1, (Below.heap_setCell W ⟨cs, 0, none⟩ v D (by show D ≠ cs; omega)).trans hj.2.2⟩)
  ?_ V (hc.same ⟨vb.block cs (by omega), vb.block ce h3, vb.block cv h4⟩) ⟨hI0, v1, v0⟩).mono ?_
 ·-- one round
  rintro pre x W ⟨hi, hl, hk⟩
  have hlt : D + 1 < W.heap.size := (Array.getElem?_eq_some_iff.1 hl).1
  rw [ready] at hl
  have hy := run_yield (P := Tryz.prog) (args := #[.string x]) hl rfl
  refine ⟨fn, _, assign, body, hy, roundIn_of_wpIn trivial ?_⟩
  refine hassign (D + 1) x W _ ?_
  refine ⟨_, run_beginRound hl rfl, ?_⟩
  obtain ⟨W2, hW2⟩ : ∃ W2, W.putObj (D + 1) (r .busy none) = W2 := ⟨_, rfl⟩
  have b2 : Below (D + 1) W W2 := by rw [← hW2]; exact below_put _ _ _ _ (Nat.le_refl _)
  have l2 : W2.heap[D + 1]? = some (r .busy none) := by rw [← hW2]; exact World.putObj_heap_same hlt
  have z2 : W2.heap.size = W.heap.size := by rw [← hW2]; simp
  rw [← ready .busy none, hW2]
  refine wpIn_mono (hbody (D + 1) pre x W2 (hI _ _ _ hi (b2.mono (by omega))) (by omega)) ?_
  have fin : ∀ (jump : Option Code) (W3 : World), Tail cs W2 W3 → (Instr.endRound (D + 1) jump).run Tryz.prog W3 = .ok (.bool jump.isNone) (W3.putObj (D + 1) (r (if jump.isNone then .ready else .done) jump)) ∧
   (W3.putObj (D + 1) (r (if jump.isNone then .ready else .done) jump)).heap[D + 1]? = some (r (if jump.isNone then .ready else .done) jump) ∧
   (W3.putObj (D + 1) (r (if jump.isNone then .ready else .done) jump)).heap[D]? = some (.deferred (some [])) ∧ Below (D + 1) W3 (W3.putObj (D + 1) (r (if jump.isNone then .ready else .done) jump)) := fun jump W3 ht => by
   have l3 : W3.heap[D + 1]? = some (r .busy none) := (ht.2 (D + 1) (by omega) (by omega)).trans l2
   have k3 : W3.heap[D]? = some (.deferred (some [])) := (ht.2 D (by omega) (by omega)).trans ((b2.block D (by omega)).trans hk)
   have hz : D + 1 < W3.heap.size := (Array.getElem?_eq_some_iff.1 l3).1
   rw [ready] at l3
   have := run_endRound (P := Tryz.prog) jump l3
   rw [this]
   exact ⟨by rw [ready], World.putObj_heap_same hz, (World.putObj_heap_other (by omega)).trans k3, below_put _ _ _ _ (Nat.le_refl _)⟩
  rintro e a3 W3 hp
  cases e with
  | normal =>
    obtain ⟨ht, hi3⟩ := hp
    obtain ⟨e1, e2, e3, e4⟩ := fin none W3 ht
    have keep : ∀ k, cs ≤ k → k < D → (W3.putObj (D + 1) (r .ready none)).heap[k]? = W.heap[k]? := fun k hk1 hk2 => (e4.block k (by omega)).trans ((ht.2 k hk1 (by omega)).trans (b2.block k (by omega)))
    exact ⟨_, _, e1, .inl ⟨rfl, ⟨hI _ _ _ hi3 (e4.mono (by omega)), e2, e3⟩, keep cs (Nat.le_refl _) (by omega), keep ce (by omega) (by omega), keep cv (by omega) (by omega)⟩⟩
  | ret =>
    obtain ⟨ht, hi3⟩ := hp
    obtain ⟨e1, e2, e3, e4⟩ := fin (some .ret) W3 ht
    exact ⟨_, _, e1, .inr ⟨rfl, hIx _ _ _ hi3 (e4.mono (by omega)), e2, e3⟩⟩
  | exit id => exact hp.elim
  | goto t => exact hp.elim
  | panic ch => exact hp.elim
  | outgrown => exact hp.elim
 ·-- behind the iterator
  rintro e W2 ⟨⟨v, rfl⟩, (⟨hi, hl, hk⟩ | ⟨pre, hpre, hi, hl, hk⟩)⟩
  ·rw [ready] at hl
   exact ⟨none, _, run_endLoop (P := Tryz.prog) hl (by simp), hdone D _ (by omega) (hI _ _ _ hi (below_put _ _ _ _ (by omega))) ((World.putObj_heap_other (by omega)).trans hk)⟩
  ·rw [ready] at hl
   exact ⟨some .ret, _, run_endLoop (P := Tryz.prog) hl (by simp), hstop D pre _ (by omega) hpre (hIx _ _ _ hi (below_put _ _ _ _ (by omega))) ((World.putObj_heap_other (by omega)).trans hk)⟩
attribute [local go_sem] Oper.semAt_some
theorem ret_boolP {a b : Bool} (h : a = b) : Ending.returned (.bool a) = .returned (.bool b) := by rw [h]
theorem goodB_parts {x : ByteArray} (h : goodB x = true) : (x.toList == []) = false ∧ (x.toList == [46]) = false ∧ (x.toList == [46, 46]) = false := by
 unfold goodB at h; simpa [Bool.and_eq_true, and_assoc] using h
theorem pathB_of (s : ByteArray) (h1 : s.size ≤ 200) (h2 : Lib.indexByte s.data.toList 0 < 0) : pathB s = (seg s).all goodB := by
 unfold pathB; rw [decide_eq_true h1, decide_eq_true h2]; rfl
theorem Path_any (s : ByteArray) (w : World) :
 Calls Tryz.prog 116 #[.string s] w fun e w' => e = .returned (.bool (pathB s)) ∧ Below w.heap.size w w' := by
 by_cases h200 : 200 < s.size
 ·have HP : Hid (pathB s = false) := by show _ = _; unfold pathB; rw [decide_eq_false (by omega)]; rfl
  have hd : decide ((s.size : Int) > 200) = true := by simp; omega
  go_enter Tryz.func116, Tryz.ntmps116
  go_wp2
  refine bodyPost_ret (v := .bool false) (by simp [results, Tryz.f116, go_sem]) rfl ⟨by rw [HP.out], ?_⟩
  exact (Below.refl _ _).alloc (Nat.le_refl _) _
 have hd : decide ((s.size : Int) > 200) = false := by simp; omega
 by_cases h0 : Lib.indexByte s.data.toList 0 < 0
 ·have HP := zh (pathB_of s (by omega) h0)
  obtain ⟨v, hv⟩ : ∃ v, Lib.indexByte s.data.toList 0 = v := ⟨_, rfl⟩
  have hc : ∀ w, Calls Tryz.prog 106 #[.string s, .int .u8 0] w fun e w' => e = .returned (.int .i64 v) ∧ w = w' := fun w => (indexByte_anyP s 0 w).mono fun e w' ⟨he, hw⟩ => ⟨by rw [he, ← hv]; rfl, hw⟩
  rw [hv] at h0
  have hd2 : decide (v ≥ 0) = false := by simp; omega
  have HC := zh hc; clear hc hv
  refine (callsIn_wide (n := 8)).1 ?_
  refine callsIn_of_wp_marks Tryz.func116 rfl trivial ?_ rfl
  simp only [Tryz.ntmps116, List.size_toArray, List.length_cons, List.length_nil, Nat.reduceAdd, Nat.reduceSub, Array.replicate_succ, Array.replicate_zero, List.push_toArray, List.append_toArray, List.nil_append, List.cons_append]
  gi_wp2
  refine ⟨trivial, ?_⟩
  refine (callsIn_wide.2 (HC.out _)).mono ?_
  rintro e w' ⟨rfl, rfl⟩
  gi_wp2
  refine ⟨trivial, ?_⟩
  refine (callsIn_wide.2 (splitSeq_any s _)).mono ?_
  rintro e w1 ⟨rfl, hw1⟩
  have HW1 := zh hw1; clear hw1
  gi_wp2
  have hB0 : Below w.heap.size w w1 := by rw [HW1.out]; exact ((((Below.refl _ w).alloc (Nat.le_refl _) _).alloc (by simp) _).alloc (by simp <;> omega) _).alloc (by simp <;> omega) _
  have hz1 : w1.heap.size = w.heap.size + 4 := by rw [HW1.out]; simp
  have hcr : w1.heap[w.heap.size]? = some (.cells #[.bool false] 4 (0, 0)) := by rw [HW1.out]; exact (Below.heap_alloc _ _ _ (by simp <;> omega)).trans ((Below.heap_alloc _ _ _ (by simp <;> omega)).trans ((Below.heap_alloc _ _ _ (by simp)).trans (heap_alloc_new w _)))
  have hc1 : w1.heap[w.heap.size + 1]? = some (.cells #[.string s] 9 (0, 0)) := by
   rw [HW1.out]; refine (Below.heap_alloc _ _ _ (by simp <;> omega)).trans ((Below.heap_alloc _ _ _ (by simp)).trans ?_)
   have := heap_alloc_new (w.alloc (.cells #[.bool false] 4)) (.cells #[.string s] 9); rwa [World.size_alloc] at this
  have hc2 : w1.heap[w.heap.size + 1 + 1]? = some (.cells #[.string slB] 9 (0, 0)) := by
   rw [HW1.out]; refine (Below.heap_alloc _ _ _ (by simp)).trans ?_
   have := heap_alloc_new ((w.alloc (.cells #[.bool false] 4)).alloc (.cells #[.string s] 9)) (.cells #[.string slB] 9); rwa [World.size_alloc, World.size_alloc] at this
  have hc3 : w1.heap[w.heap.size + 1 + 2]? = some (.cells #[.int .i64 0] 3 (0, 0)) := by
   rw [HW1.out]
   have := heap_alloc_new (((w.alloc (.cells #[.bool false] 4)).alloc (.cells #[.string s] 9)).alloc (.cells #[.string slB] 9)) (.cells #[.int .i64 0] 3); rwa [World.size_alloc, World.size_alloc, World.size_alloc] at this
  clear HW1
  refine wpIn_split (n := 8) (w.heap.size + 1) (w.heap.size + 1 + 1) (w.heap.size + 1 + 2) s (by omega) rfl
   ⟨by rw [cell_of_row w1 _ 0 _ _ _ hc1]; rfl, by simp [World.frozen?, hc1], by rw [cell_of_row w1 _ 0 _ _ _ hc2]; rfl, by rw [cell_of_row w1 _ 0 _ _ _ hc3]; rfl⟩ (by omega) (by omega) (by omega) (by omega)
   (fun xs W => xs.all goodB = true ∧ W.heap[w.heap.size]? = some (.cells #[.bool false] 4 (0, 0)) ∧ Below w.heap.size w W)
   (fun xs W => xs.all goodB = false ∧ W.heap[w.heap.size]? = some (.cells #[.bool false] 4 (0, 0)) ∧ Below w.heap.size w W)
   (fun xs W W' h hb => ⟨h.1, (hb.block _ (by omega)).trans h.2.1, h.2.2.trans (hb.mono (by omega))⟩)
   (fun xs W W' h hb => ⟨h.1, (hb.block _ (by omega)).trans h.2.1, h.2.2.trans (hb.mono (by omega))⟩)
   ⟨rfl, hcr, hB0⟩
   (fun x => { tmps := #[.string s, undef, .pointer (some ⟨w.heap.size, 0, none⟩), .string x, .string s, .int .i64 s.size, .bool false, .bool false, .string s, .int .i64 v, .bool false, .bool false, .string s, .func (.func 159) #[] #[.pointer (some ⟨w.heap.size + 1 + 1, 0, none⟩), .pointer (some ⟨w.heap.size + 1, 0, none⟩), .pointer (some ⟨w.heap.size + 1 + 2, 0, none⟩)], .string x, undef, undef, undef, undef, undef], defers := [] })
   ?assign ?body ?done ?stop
  case assign =>
   intro l x W K hK
   gi_wp2
   exact hK
  case body =>
   rintro l pre x W ⟨hp, hcr, hB⟩ hlt
   have hcell : W.cell? ⟨w.heap.size, 0, none⟩ = some (.bool false) := by rw [cell_of_row W _ 0 _ _ _ hcr]; rfl
   have hfro : W.frozen? ⟨w.heap.size, 0, none⟩ = false := by simp [World.frozen?, hcr]
   by_cases hg : goodB x = true
   ·obtain ⟨g1, g2, g3⟩ := goodB_parts hg
    have HR : Hid (Tail (w.heap.size + 1) W W ∧ (pre ++ [x]).all goodB = true ∧ W.heap[w.heap.size]? = some (.cells #[.bool false] 4 (0, 0)) ∧ Below w.heap.size w W) :=
     ⟨⟨Nat.le_refl _, fun _ _ _ => rfl⟩, by rw [List.all_append, hp]; simp [hg], hcr, hB⟩
    clear hg hp hcr hB
    gi_wp2
    exact HR.out
   ·have hg : goodB x = false := by simpa using hg
    have HR : Hid (Tail (w.heap.size + 1) W (W.setCell ⟨w.heap.size, 0, none⟩ (.bool false)) ∧ (pre ++ [x]).all goodB = false ∧ (W.setCell ⟨w.heap.size, 0, none⟩ (.bool false)).heap[w.heap.size]? = some (.cells #[.bool false] 4 (0, 0)) ∧ Below w.heap.size w (W.setCell ⟨w.heap.size, 0, none⟩ (.bool false))) :=
     ⟨⟨by simp [World.setCell], fun k hk _ => Below.heap_setCell W ⟨w.heap.size, 0, none⟩ _ k (by show k ≠ w.heap.size; omega)⟩, by rw [List.all_append]; simp [hg], by simp [World.setCell, Array.getElem?_modify, hcr], hB.trans (below_set _ _ _ _ (Nat.le_refl _))⟩
    have hcs : (x.toList == []) = true ∨ ((x.toList == []) = false ∧ (x.toList == [46]) = true) ∨ ((x.toList == []) = false ∧ (x.toList == [46]) = false ∧ (x.toList == [46, 46]) = true) := by
     unfold goodB at hg
     cases h1 : (x.toList == []) <;> cases h2 : (x.toList == [46]) <;> cases h3 : (x.toList == [46, 46]) <;> simp_all
    clear hg hp hcr hB
    rcases hcs with g1 | ⟨g1, g2⟩ | ⟨g1, g2, g3⟩
    all_goals
     gi_wp2
     exact HR.out
  case done =>
   rintro D W hD ⟨hp, hcr, hB⟩ hK
   have hcell : W.cell? ⟨w.heap.size, 0, none⟩ = some (.bool false) := by rw [cell_of_row W _ 0 _ _ _ hcr]; rfl
   have hfro : W.frozen? ⟨w.heap.size, 0, none⟩ = false := by simp [World.frozen?, hcr]
   gi_wp2
   have hKs : (W.setCell ⟨w.heap.size, 0, none⟩ (.bool true)).heap[D]? = some (.deferred (some [])) := (Below.heap_setCell W ⟨w.heap.size, 0, none⟩ (.bool true) D (by show D ≠ w.heap.size; omega)).trans hK
   have hc5 : ((W.setCell ⟨w.heap.size, 0, none⟩ (.bool true)).putObj D (.deferred none)).cell? ⟨w.heap.size, 0, none⟩ = some (.bool true) :=
    (World.cell?_of_block (a := ⟨w.heap.size, 0, none⟩) (World.putObj_heap_other (by show w.heap.size ≠ D; omega))).trans (World.cell?_setCell_same' _ _ _ (by rw [hcell]; rfl))
   refine ⟨by simp, .inl ⟨_, _, rfl, run_takeDeferred hKs, ?_⟩⟩
   refine ⟨.bool true, ?_, by rw [HP.out, hp], hB.trans ((below_set _ W _ _ (Nat.le_refl _)).trans (below_put _ _ _ _ (by omega)))⟩
   simp [results, Tryz.f116, go_sem, hc5]
  case stop =>
   rintro D pre W hD hpre ⟨hp, hcr, hB⟩ hK
   have hcell : W.cell? ⟨w.heap.size, 0, none⟩ = some (.bool false) := by rw [cell_of_row W _ 0 _ _ _ hcr]; rfl
   have hfa : (seg s).all goodB = false := by
    obtain ⟨r, hr⟩ := hpre
    rw [← hr, List.all_append, hp]; rfl
   gi_wp2
   have hc5 : (W.putObj D (.deferred none)).cell? ⟨w.heap.size, 0, none⟩ = some (.bool false) :=
    (World.cell?_of_block (a := ⟨w.heap.size, 0, none⟩) (World.putObj_heap_other (by show w.heap.size ≠ D; omega))).trans hcell
   refine ⟨by simp, .inl ⟨_, _, rfl, run_takeDeferred hK, ?_⟩⟩
   refine ⟨.bool false, ?_, by rw [HP.out, hfa], hB.trans (below_put _ _ _ _ (by omega))⟩
   simp [results, Tryz.f116, go_sem, hc5]
 ·have HP : Hid (pathB s = false) := by show _ = _; unfold pathB; rw [decide_eq_false h0, Bool.and_false]; rfl
  obtain ⟨v, hv⟩ : ∃ v, Lib.indexByte s.data.toList 0 = v := ⟨_, rfl⟩
  have hc : ∀ w, Calls Tryz.prog 106 #[.string s, .int .u8 0] w fun e w' => e = .returned (.int .i64 v) ∧ w = w' := fun w => (indexByte_anyP s 0 w).mono fun e w' ⟨he, hw⟩ => ⟨by rw [he, ← hv]; rfl, hw⟩
  rw [hv] at h0
  have hd2 : decide (v ≥ 0) = true := by simp; omega
  have HC := zh hc; clear hc hv
  go_enter Tryz.func116, Tryz.ntmps116
  go_wp2_with fail
  refine (HC.out _).mono ?_
  rintro e w' ⟨rfl, rfl⟩
  go_wp2_with fail
  refine bodyPost_ret (v := .bool false) (by simp [results, Tryz.f116, go_sem]) rfl ⟨by rw [HP.out], ?_⟩
  exact (Below.refl _ _).alloc (Nat.le_refl _) _
end Go.Proofs.YtecllfbadciaoaaGreatDoor
