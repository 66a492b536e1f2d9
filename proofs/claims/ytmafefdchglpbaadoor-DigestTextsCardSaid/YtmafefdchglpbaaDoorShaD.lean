/-
  The walks of digest.newHash and (*digest.hash).digest (condition: the hash lies in a block of its own).
-/
import Derived.Test.YtmafefdchglpbaaDoorShaC
namespace Go.Proofs.YtmafefdchglpbaaDoor
open Go.RowKit

theorem Tryd.info60h : (Tryd.prog.info? 100).map (·.size) = some 74 := by kernel_rfl
theorem Tryd.info25d : (Tryd.prog.info? 23).map (·.size) = some 32 := by kernel_rfl

def zst : St := ⟨0, 0, 0, 0, 0, 0, 0, 0⟩
def zhash : Array Value := (hcells zst (List.replicate 64 0) 0 0).toArray
def ihash : Array Value := (hcells iv (List.replicate 64 0) 0 0).toArray
theorem zero60 (w : World) : (zeroValue 100).run Tryd.prog w = .ok (.agg zhash) w := by kernel_rfl
theorem build49 (w : World) : (Instr.build 97 #[(0, .int .u32 1779033703), (1, .int .u32 3144134277), (2, .int .u32 1013904242), (3, .int .u32 2773480762), (4, .int .u32 1359893119), (5, .int .u32 2600822924), (6, .int .u32 528734635), (7, .int .u32 1541459225)]).run Tryd.prog w = .ok (.agg #[.int .u32 1779033703, .int .u32 3144134277, .int .u32 1013904242, .int .u32 2773480762, .int .u32 1359893119, .int .u32 2600822924, .int .u32 528734635, .int .u32 1541459225]) w := by kernel_rfl
theorem build60 (w : World) : (Instr.build 100 #[(0, .agg #[.int .u32 1779033703, .int .u32 3144134277, .int .u32 1013904242, .int .u32 2773480762, .int .u32 1359893119, .int .u32 2600822924, .int .u32 528734635, .int .u32 1541459225])]).run Tryd.prog w = .ok (.agg ihash) w := by kernel_rfl
theorem ihash_size : ihash.size = 74 := rfl
theorem zhash_size : zhash.size = 74 := rfl
theorem ihash_one : ihash.all (·.oneCell') = true := by decide +kernel
set_option maxRecDepth 100000 in
set_option maxHeartbeats 1000000 in
theorem newHash_any (w : World) :
    Calls Tryd.prog 79 #[] w fun e w' => e = .returned (.agg ihash) ∧ Below w.heap.size w w' := by
  have hz := zero60
  have h49 := build49
  have h60 := build60
  have H0 := Lib.hid (heap_alloc_new w (.cells zhash 100))
  have HI : Hid ((Tryd.prog.info? 100).map (·.size) = some ihash.size) := Tryd.info60h
  go_enter Tryd.func79, Tryd.ntmps79
  go_wp2_with (refine wpList_store_row rfl 100 _ _ rfl w.heap.size ihash rfl rfl 100 zhash H0.out HI.out rfl ihash_one ?_)
  refine bodyPost_ret (results_cell_row (P := Tryd.prog) rfl _ _ w.heap.size 100 ihash (0, 0) _ rfl (setRow_heap _ _ _ _ _ _ H0.out) Tryd.underlying100 rfl HI.out) rfl ⟨rfl, below_setRow ((Below.refl _ _).alloc (Nat.le_refl _) _) (Nat.le_refl _) _⟩

/-- the four bytes of a word -/
def wb (x : Int) : List Int := [(x / 16777216) % 256, (x / 65536) % 256, (x / 256) % 256, x % 256]
def dbytes : List Int → List Int
  | [] => []
  | x :: r => wb x ++ dbytes r
theorem dbytes_length (l : List Int) : (dbytes l).length = 4 * l.length := by
  induction l with
  | nil => rfl
  | cons x r ih => simp [dbytes, wb, ih]; omega
theorem dbytes_append (a b : List Int) : dbytes (a ++ b) = dbytes a ++ dbytes b := by
  induction a with
  | nil => rfl
  | cons x r ih => simp [dbytes, ih]
theorem take_snoc0 (l : List Int) (k : Nat) (h : k < l.length) : l.take (k + 1) = l.take k ++ [l.getD k 0] := by
  rw [List.take_succ_eq_append_getElem h]; simp [List.getD_eq_getElem?_getD, List.getElem?_eq_getElem h]
theorem fill_four (l : List Int) (a b c d : Int) (n m : Nat) (hn : l.length = n) (hm : n + 4 ≤ m) :
    ((((fillTo m l).set n a).set (n + 1) b).set (n + 2) c).set (n + 3) d = fillTo m (l ++ [a, b, c, d]) := by
  subst hn
  rw [fillTo_set _ _ _ (by omega)]
  have h1 := fillTo_set m (l ++ [a]) b (by simp; omega)
  have h2 := fillTo_set m (l ++ [a] ++ [b]) c (by simp; omega)
  have h3 := fillTo_set m (l ++ [a] ++ [b] ++ [c]) d (by simp; omega)
  simp only [List.length_append, List.append_assoc, List.singleton_append, List.length_cons, List.length_nil] at h1 h2 h3
  rw [h1, h2, h3]
  rfl

theorem index8 (st : St) (k : Nat) (hk : k < 8) (w : World) : (Instr.index 97 (.agg #[.int .u32 st.a, .int .u32 st.b, .int .u32 st.c, .int .u32 st.d, .int .u32 st.e, .int .u32 st.f, .int .u32 st.g, .int .u32 st.h]) (.int .i64 k)).run Tryd.prog w = .ok (.int .u32 (st.list.getD k 0)) w := by
  rcases (by omega : k = 0 ∨ k = 1 ∨ k = 2 ∨ k = 3 ∨ k = 4 ∨ k = 5 ∨ k = 6 ∨ k = 7) with rfl | rfl | rfl | rfl | rfl | rfl | rfl | rfl <;> kernel_rfl

structure DigAt (B : Nat) (w wr : World) (L : List Int) : Prop where
  row : RowIn wr (B + 1) 23 .u8 L
  res : RowIn wr B 23 .u8 (List.replicate 32 0)
  bel : Below B w wr
  size : wr.heap.size = B + 2
theorem DigAt.start (w : World) : DigAt w.heap.size w ((w.alloc (.cells (Array.replicate 32 (Value.int .u8 0)) 23)).alloc (.cells (Array.replicate 32 (Value.int .u8 0)) 23)) (fillTo 32 []) :=
  ⟨heap_alloc2_new _ _ _, heap_alloc2_old _ _ _, ((Below.refl _ _).alloc (Nat.le_refl _) _).alloc (by simp) _, by simp⟩
theorem DigAt.put {B : Nat} {w wr : World} {L : List Int} (h : DigAt B w wr L) (i : Nat) (v : Int) : DigAt B w (wr.setCell ⟨B + 1, i, none⟩ (.int .u8 v)) (L.set i v) :=
  ⟨h.row.put i v, h.res.put_other _ _ (by simp), h.bel.setCell (by simp) _, by simp [World.setCell, h.size]⟩
theorem DigAt.four {B : Nat} {w wr : World} {l : List Int} (h : DigAt B w wr (fillTo 32 l)) (n : Nat) (hn : l.length = n) (hm : n + 4 ≤ 32) (x : Int) :
    DigAt B w ((((wr.setCell ⟨B + 1, n, none⟩ (.int .u8 (x / 16777216 % 256))).setCell ⟨B + 1, n + 1, none⟩ (.int .u8 (x / 65536 % 256))).setCell ⟨B + 1, n + 2, none⟩ (.int .u8 (x / 256 % 256))).setCell ⟨B + 1, n + 3, none⟩ (.int .u8 (x % 256))) (fillTo 32 (l ++ wb x)) := by
  have := (((h.put n (x / 16777216 % 256)).put (n + 1) (x / 65536 % 256)).put (n + 2) (x / 256 % 256)).put (n + 3) (x % 256)
  rw [fill_four _ _ _ _ _ _ _ hn hm] at this
  exact this

set_option maxRecDepth 100000 in
set_option maxHeartbeats 1000000 in
theorem digest_any (hb : Nat) (st : St) (rest : List Int) (used : Nat) (len : Int) (w : World) (hh : HashIn w hb st rest used len) :
    Calls Tryd.prog 98 #[.pointer (some ⟨hb, 0, none⟩)] w fun e w' => e = .returned (.agg ((dbytes st.list).map (Value.int .u8)).toArray) ∧ Below w.heap.size w w' := by
  have d0 : w.cell? ⟨hb, 0, none⟩ = some (.int .u32 st.a) := hh.word 0 (by omega)
  have d1 : w.cell? ⟨hb, 1, none⟩ = some (.int .u32 st.b) := hh.word 1 (by omega)
  have d2 : w.cell? ⟨hb, 2, none⟩ = some (.int .u32 st.c) := hh.word 2 (by omega)
  have d3 : w.cell? ⟨hb, 3, none⟩ = some (.int .u32 st.d) := hh.word 3 (by omega)
  have d4 : w.cell? ⟨hb, 4, none⟩ = some (.int .u32 st.e) := hh.word 4 (by omega)
  have d5 : w.cell? ⟨hb, 5, none⟩ = some (.int .u32 st.f) := hh.word 5 (by omega)
  have d6 : w.cell? ⟨hb, 6, none⟩ = some (.int .u32 st.g) := hh.word 6 (by omega)
  have d7 : w.cell? ⟨hb, 7, none⟩ = some (.int .u32 st.h) := hh.word 7 (by omega)
  have hlt := hh.lt
  go_enter Tryd.func98, Tryd.ntmps98
  go_wp2_with fail
  go_loopw [10] (fun i wr => ∃ k : Nat, k ≤ 8 ∧ i = .int .i64 k ∧ DigAt w.heap.size w wr (fillTo 32 (dbytes (st.list.take k)))) (fun i _ => 8 - (intOf i).toNat)
  case atStart => exact ⟨0, by omega, rfl, DigAt.start w⟩
  case round =>
    obtain ⟨k, hk, rfl, hS⟩ := hrel
    clear d0 d1 d2 d3 d4 d5 d6 d7
    by_cases hlt : k < 8
    · have hd : (dbytes (st.list.take k)).length = 4 * k := by rw [dbytes_length, List.length_take, St.list_length]; omega
      have hl : (fillTo 32 (dbytes (st.list.take k))).length = 32 := fillTo_length _ _ (by omega)
      have c0 := hS.row.get (4 * k) (by omega)
      have f0 := hS.row.free (4 * k)
      have c1 := hS.row.get (4 * k + 1) (by omega)
      have f1 := hS.row.free (4 * k + 1)
      have c2 := hS.row.get (4 * k + 2) (by omega)
      have f2 := hS.row.free (4 * k + 2)
      have c3 := hS.row.get (4 * k + 3) (by omega)
      have f3 := hS.row.free (4 * k + 3)
      have E : Hid (dbytes (st.list.take (k + 1)) = dbytes (st.list.take k) ++ wb (st.list.getD k 0)) := by
        show _ = _
        rw [take_snoc0 _ _ (by rw [St.list_length]; exact hlt), dbytes_append]; rfl
      have hix := index8 st k hlt
      have HD := Lib.hid hd; clear hd hl
      generalize st.list.getD k 0 = x at *
      go_wp2
      go_roundw
      case rel =>
        refine ⟨k + 1, by omega, by go_num, ?_⟩
        rw [E.out]
        exact hS.four (4 * k) HD.out (by omega) x
      case measure => simp [intOf]; omega
    · obtain rfl : k = 8 := by omega
      have hl : (fillTo 32 (dbytes (st.list.take 8))) = dbytes st.list := fillTo_full _ _ rfl
      rw [hl] at hS
      have H1 := Lib.hid hS.row; have H2 := Lib.hid hS.res
      have hi1 : (Tryd.prog.info? 23).map (·.size) = some ((dbytes st.list).map (Value.int .u8)).toArray.size := by
        rw [List.size_toArray, List.length_map, dbytes_length, St.list_length]; exact Tryd.info25d
      have HI := Lib.hid hi1; clear hi1 hl
      have hone := oneCell_map .u8 (dbytes st.list)
      have hsz : ((List.replicate 32 0).map (Value.int .u8)).toArray.size = ((dbytes st.list).map (Value.int .u8)).toArray.size := by simp [dbytes_length, St.list_length]
      have HO := Lib.hid hone; have HZ := Lib.hid hsz; clear hone hsz
      generalize hL : dbytes st.list = L at *
      have HL := Lib.hid hL; clear hL
      go_wp2_with (first
        | (refine wpList_load_row rfl 23 _ rfl (w.heap.size + 1) rfl 23 _ (0, 0) _ H1.out Tryd.underlying23 rfl HI.out ?_)
        | (refine wpList_store_row rfl 23 _ _ rfl w.heap.size _ rfl rfl 23 _ H2.out HI.out HZ.out HO.out ?_))
      exact bodyPost_ret (results_cell_row (P := Tryd.prog) rfl _ _ w.heap.size 23 _ (0, 0) _ rfl (H2.out.setRow _) Tryd.underlying23 rfl HI.out) rfl ⟨by rw [HL.out], below_setRow hS.bel (Nat.le_refl _) _⟩
end Go.Proofs.YtmafefdchglpbaaDoor
