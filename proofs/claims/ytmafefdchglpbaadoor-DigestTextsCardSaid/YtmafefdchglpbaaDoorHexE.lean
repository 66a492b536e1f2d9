/-
  The walks of digest.ParseHalf and digest.Parse.
-/
import Derived.Test.YtmafefdchglpbaaDoorHexD
namespace Go.Proofs.YtmafefdchglpbaaDoor
open Go.RowKit

/-- whether a text is n bytes' digits; the bytes, zeros if it is not -/
def pok (l : List UInt8) (n : Nat) : Bool := decide (l.length = 2 * n) && hok l n
def pby (l : List UInt8) (n : Nat) : List Int := if pok l n = true then hbs l n else List.replicate n 0
theorem results_row_tmp {P : Program} {fn : Func} {p u : Tmp} {ty : TypeId} (h : fn.results = #[.cell p ty, .tmp u]) (tmps : Array Value) (w : World) (g : Nat) (t : TypeId) (cs : Array Value) (fr : Nat × Nat) (d : TypeDesc)
    (hp : tmps.getD p undef = .pointer (some ⟨g, 0, none⟩)) (hg : w.heap[g]? = some (.cells cs t fr))
    (hu : P.underlying ty = some d) (hd : (match d with | .struct _ | .array _ _ => true | _ => false) = true) (hi : (P.info? ty).map (·.size) = some cs.size) :
    (results fn tmps).run P w = .ok (.tuple #[.agg cs, tmps.getD u undef]) w := by
  rw [results_cell_tmp h, hp]
  simp [asAddr, run_loadVar_row w g t ty cs fr d hg hu hd hi]

/-- a row of zeros, its value behind a name -/
def zrow (n : Nat) : Array Value := ((List.replicate n (0 : Int)).map (Value.int .u8)).toArray
theorem bzH (w : World) : (Instr.build 25 #[]).run Tryd.prog w = .ok (.agg (zrow 16)) w := by kernel_rfl

theorem bzD (w : World) : (Instr.build 23 #[]).run Tryd.prog w = .ok (.agg (zrow 32)) w := by kernel_rfl
theorem row_info16 (L : List Int) (h : L.length = 16) : (Tryd.prog.info? 25).map (·.size) = some (L.map (Value.int .u8)).toArray.size := by rw [List.size_toArray, List.length_map, h]; exact Tryd.info30h
theorem row_info32 (L : List Int) (h : L.length = 32) : (Tryd.prog.info? 23).map (·.size) = some (L.map (Value.int .u8)).toArray.size := by rw [List.size_toArray, List.length_map, h]; exact Tryd.info25d
theorem row_sizes (A L : List Int) (h : A.length = L.length) : (A.map (Value.int .u8)).toArray.size = (L.map (Value.int .u8)).toArray.size := by simp [h]
set_option maxRecDepth 100000 in
set_option maxHeartbeats 1000000 in
theorem ParseHalf_any (s : ByteArray) (w : World) :
    Calls Tryd.prog 11 #[.string s] w fun e w' => e = .returned (.tuple #[.agg ((pby s.data.toList 16).map (Value.int .u8)).toArray, .bool (pok s.data.toList 16)]) ∧ Below w.heap.size w w' := by
  have HR := Lib.hid (row_new w 25 .u8 (List.replicate 16 0))
  have HB := Lib.hid (below_alloc w (.cells ((List.replicate 16 0).map (Value.int .u8)).toArray 25))
  have HSZ := Lib.hid (alloc_size w (.cells ((List.replicate 16 0).map (Value.int .u8)).toArray 25))
  have hbz := bzH
  go_enter Tryd.func11, Tryd.ntmps11
  go_wp2_with fail
  generalize hw0 : World.alloc w _ = w0
  have hr0 : RowIn w0 w.heap.size 25 .u8 (List.replicate 16 0) := by rw [← hw0]; exact HR.out
  have hb0 : Below w.heap.size w w0 := by rw [← hw0]; exact HB.out
  have hs0 : w0.heap.size = w.heap.size + 1 := by rw [← hw0]; exact HSZ.out
  clear hw0 HR HB HSZ
  have hr1 : RowIn (w0.alloc (.cells (Array.replicate 16 (Value.int .u8 0)) 25)) w0.heap.size 25 .u8 (List.replicate 16 0) := row_new w0 25 .u8 (List.replicate 16 0)
  have hb1 := below_alloc w0 (.cells (Array.replicate 16 (Value.int .u8 0)) 25)
  generalize hw1 : World.alloc w0 _ = w1
  have hr1' : RowIn w1 (w.heap.size + 1) 25 .u8 (List.replicate 16 0) := by rw [← hw1, ← hs0]; exact hr1
  have hb1' : Below w0.heap.size w0 w1 := by rw [← hw1]; exact hb1
  clear hw1 hr1 hb1
  have hr01 := hr0.below hb1' (by omega)
  have hbe1 := hb0.trans (hb1'.mono (by omega))
  refine (unhex_any (w.heap.size + 1) 25 (List.replicate 16 0) 16 s w1 hr1' (by simp) (by omega)).mono ?_
  rintro e w2 ⟨L, rfl, hL, hr2, hgr, hfin⟩
  have HR2 := Lib.hid hr2
  have HR0 := Lib.hid (hr01.grown hgr (by omega))
  have HBE : Hid (Below w.heap.size w w2) := hbe1.trans ((below_of_grown hgr (by have := hr1'.lt; omega)).mono (by omega))
  have HP : Hid (pok s.data.toList 16 = (decide (s.size = 2 * 16) && hok s.data.toList 16)) := by show _ = _; unfold pok; rw [Lib.size_eq]
  have HPB : Hid (pby s.data.toList 16 = if pok s.data.toList 16 = true then hbs s.data.toList 16 else List.replicate 16 0) := rfl
  clear hr2 hgr hr01 hbe1 hr0 hb0 hs0 hr1' hb1'
  generalize (decide (s.size = 2 * 16) && hok s.data.toList 16) = bv at *
  have HLL := Lib.hid hL; clear hL
  cases bv
  · have HPB2 : Hid (pby s.data.toList 16 = List.replicate 16 0) := by show _ = _; rw [HPB.out, if_neg (by rw [HP.out]; simp)]
    clear hfin
    have HI : Hid ((Tryd.prog.info? 25).map (·.size) = some (zrow 16).size) := row_info16 (List.replicate 16 0) (by simp)
    have HO : Hid ((zrow 16).all (·.oneCell') = true) := oneCell_map .u8 _
    have HS : Hid (((List.replicate 16 (0 : Int)).map (Value.int .u8)).toArray.size = (zrow 16).size) := rfl
    go_wp2_with (refine wpList_store_row rfl 25 _ _ rfl w.heap.size (zrow 16) rfl rfl 25 _ HR0.out HI.out HS.out HO.out ?_)
    exact bodyPost_ret (results_row_tmp (P := Tryd.prog) rfl _ _ w.heap.size 25 (zrow 16) (0, 0) _ rfl (setRow_heap _ _ _ _ _ _ HR0.out) Tryd.underlying25 rfl HI.out) rfl ⟨by rw [HPB2.out, HP.out]; rfl, below_setRow HBE.out (Nat.le_refl _) _⟩
  · have HPB2 : Hid (pby s.data.toList 16 = L) := by show _ = _; rw [HPB.out, if_pos HP.out, hfin rfl]
    clear hfin hbz
    have HI := Lib.hid (row_info16 L HLL.out); have HO := Lib.hid (oneCell_map .u8 L); have HS := Lib.hid (row_sizes (List.replicate 16 0) L (by rw [HLL.out]; simp))
    go_wp2_with (first
      | (refine wpList_load_row rfl 25 _ rfl (w.heap.size + 1) rfl 25 _ (0, 0) _ HR2.out Tryd.underlying25 rfl HI.out ?_)
      | (refine wpList_store_row rfl 25 _ _ rfl w.heap.size _ rfl rfl 25 _ HR0.out HI.out HS.out HO.out ?_))
    exact bodyPost_ret (results_row_tmp (P := Tryd.prog) rfl _ _ w.heap.size 25 _ (0, 0) _ rfl (HR0.out.setRow _) Tryd.underlying25 rfl HI.out) rfl ⟨by rw [HPB2.out, HP.out]; rfl, below_setRow HBE.out (Nat.le_refl _) _⟩
end Go.Proofs.YtmafefdchglpbaaDoor
