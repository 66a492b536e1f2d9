/-
  Versions: the walks of makeASCIISet and Trim at the ten digits (condition: strings of at most 100000 bytes).
-/
import Derived.Test.YtceeilojcifgeaaGreatDoorVerG
namespace Go.Proofs.YtceeilojcifgeaaGreatDoor
open Go.RowKit

def dgN (k : Nat) : Nat → Bool := fun j => decide (48 ≤ j) && decide (j < 48 + k)
theorem results_row_tmpV {P : Program} {fn : Func} {p u : Tmp} {ty : TypeId} (h : fn.results = #[.cell p ty, .tmp u]) (tmps : Array Value) (w : World) (g : Nat) (t : TypeId) (cs : Array Value) (fr : Nat × Nat) (d : TypeDesc)
    (hp : tmps.getD p undef = .pointer (some ⟨g, 0, none⟩)) (hg : w.heap[g]? = some (.cells cs t fr))
    (hu : P.underlying ty = some d) (hd : (match d with | .struct _ | .array _ _ => true | _ => false) = true) (hi : (P.info? ty).map (·.size) = some cs.size) :
    (results fn tmps).run P w = .ok (.tuple #[.agg cs, tmps.getD u undef]) w := by
  rw [results_cell_tmp h, hp]
  simp [asAddr, run_loadVar_row w g t ty cs fr d hg hu hd hi]
theorem below_setRowV {B : Nat} {a w : World} (h : Below B a w) {g : Nat} (hg : B ≤ g) (cs : Array Value) : Below B a (w.setRow g cs) :=
  ⟨h.os, h.tape, h.output, by simp; exact h.size, fun k hk => (setRow_other w g k cs (by omega)).trans (h.block k hk)⟩
theorem infoAS : (Tryz.prog.info? 102).map (·.size) = some 256 := by kernel_rfl
theorem zeroAS : Tryz.zeroCells102 = asRow (fun _ => false) := by kernel_rfl
theorem asRow_one (f : Nat → Bool) : (asRow f).all (·.oneCell') = true := by
  unfold asRow; simp [Value.oneCell']
theorem dgN_zero : dgN 0 = fun _ => false := by funext j; unfold dgN; rw [Bool.eq_iff_iff]; simp
theorem dgN_succ (k : Nat) : (fun j => decide (j = 48 + k) || dgN k j) = dgN (k + 1) := by
  funext j; unfold dgN; rw [Bool.eq_iff_iff]; simp only [Bool.or_eq_true, Bool.and_eq_true, decide_eq_true_iff]; omega
set_option maxRecDepth 100000 in
set_option maxHeartbeats 1000000 in
theorem makeSet_any (w : World) :
    Calls Tryz.prog 97 #[.string ⟨#[48, 49, 50, 51, 52, 53, 54, 55, 56, 57]⟩] w fun e w' => e = .returned (.tuple #[.agg (asRow dgS), .bool true]) ∧ Below w.heap.size w w' := by
  have HZ := Lib.hid zeroAS
  have HD := Lib.hid digs10
  go_enter Tryz.func97, Tryz.ntmps97
  go_wp2_with fail
  rw [HZ.out]
  go_loopw [4] (fun i wr => ∃ k : Nat, k ≤ 10 ∧ i = .int .i64 k ∧ Hid (wr.heap[w.heap.size]? = some (.cells (asRow (dgN k)) 102 (0, 0)) ∧ Below w.heap.size w wr)) (fun i _ => 10 - (intOf i).toNat)
  case atStart => exact ⟨0, by omega, rfl, by rw [heap_alloc_new, dgN_zero], (Below.refl _ _).alloc (Nat.le_refl _) _⟩
  case round =>
    obtain ⟨k, hk, rfl, HR⟩ := hrel
    by_cases hlt : k < 10
    · have hd : decide ((k : Int) < 10) = true := by simp; omega
      have hx := HD.out k hlt wr
      have hg : decide (((48 + k : Nat) : Int) ≥ 128) = false := by simp; omega
      obtain ⟨q, hq⟩ : ∃ q, 48 + k = q := ⟨_, rfl⟩
      have HQ := Lib.hid hq
      have hq2 : q < 256 := by omega
      have p0 : (0 : Int) ≤ (q : Int) := by omega
      have p1 : (q : Int) < 256 := by omega
      have hc : wr.cell? ⟨w.heap.size, q, none⟩ = some (.bool (dgN k q)) := by rw [cell_of_row wr w.heap.size q _ _ _ HR.out.1, asRow_get _ _ hq2]
      have hf : wr.frozen? ⟨w.heap.size, q, none⟩ = false := frozen_of_row wr w.heap.size q _ _ HR.out.1
      rw [hq] at hx hg
      clear hq
      go_wp2_with fail
      go_roundw
      case rel =>
        refine ⟨k + 1, by omega, by go_num, ?_, ?_⟩
        · rw [heap_setCell_same wr w.heap.size q _ _ _ HR.out.1, asRow_set, ← HQ.out, dgN_succ]
        · exact HR.out.2.setCell (Nat.le_refl _) _
      case measure => simp [intOf]; omega
    · obtain rfl : k = 10 := by omega
      have HI := Lib.hid (show (Tryz.prog.info? 102).map (·.size) = some (asRow (dgN 10)).size by rw [asRow_size]; exact infoAS)
      have HO := Lib.hid (asRow_one (dgN 10))
      have HS := Lib.hid (show (asRow (dgN 10)).size = (asRow (dgN 10)).size from rfl)
      have HE := Lib.hid (show dgN 10 = dgS from rfl)
      have HROW := Lib.hid HR.out.1
      have HBE := Lib.hid HR.out.2
      generalize dgN 10 = f at *
      go_wp2_with (first
        | (refine wpList_load_row rfl 102 _ rfl w.heap.size rfl 102 _ (0, 0) _ HROW.out Tryz.underlying102 rfl HI.out ?_)
        | (refine wpList_store_row rfl 102 _ _ rfl w.heap.size _ rfl rfl 102 _ HROW.out HI.out HS.out HO.out ?_))
      exact bodyPost_ret (results_row_tmpV (P := Tryz.prog) rfl _ _ w.heap.size 102 _ (0, 0) _ rfl (setRow_heap _ _ _ _ _ _ HROW.out) Tryz.underlying102 rfl HI.out) rfl ⟨by rw [HE.out]; rfl, below_setRowV HBE.out (Nat.le_refl _) _⟩
theorem trim_empty (l : BL) : (dropR l).dropWhile isD = [] ↔ l.all isD = true := by
  unfold dropR
  rw [List.all_eq_true]
  constructor
  · intro h c hc
    have h2 : ∀ c ∈ (l.reverse.dropWhile isD).reverse, isD c = true := by
      intro c hc
      rw [← List.takeWhile_append_dropWhile (p := isD) (l := (l.reverse.dropWhile isD).reverse), h, List.append_nil] at hc
      exact tw_all isD _ c hc
    have h3 : c ∈ l.reverse := List.mem_reverse.2 hc
    rw [← List.takeWhile_append_dropWhile (p := isD) (l := l.reverse)] at h3
    rcases List.mem_append.1 h3 with h3 | h3
    · exact tw_all isD _ c h3
    · exact h2 c (List.mem_reverse.2 h3)
  · intro h
    have e : l.reverse.dropWhile isD = [] := by
      have := (tw_app isD l.reverse [] (fun c hc => h c (List.mem_reverse.1 hc)) (fun c r h => by cases h)).2
      rwa [List.append_nil] at this
    rw [e]; rfl
set_option maxRecDepth 100000 in
set_option maxHeartbeats 1000000 in
theorem trim_any (l : BL) (w : World) (hl : l.length ≤ 100000) (hne : l ≠ []) :
    Calls Tryz.prog 93 #[.string (bs l), .string ⟨#[48, 49, 50, 51, 52, 53, 54, 55, 56, 57]⟩] w fun e w' => e = .returned (.string (bs ((dropR l).dropWhile isD))) ∧ Below w.heap.size w w' := by
  have HS := Lib.hid (fun w => makeSet_any w)
  have hdl : (dropR l).length ≤ 100000 := by
    unfold dropR; have := tw_len isD l.reverse; simp at this ⊢; omega
  have HR := Lib.hid (fun b T w h => trimRA_any b T l w h hl)
  have HL := Lib.hid (fun b T w h => trimLA_any b T (dropR l) w h hdl)
  have hq : ((bs l).toList == []) = false := by rw [Lib.toList_data, bs_data]; exact beq_eq_false_iff_ne.2 hne
  generalize bs l = r at *
  generalize bs ((dropR l).dropWhile isD) = r2 at *
  generalize bs (dropR l) = r3 at *
  have HO := Lib.hid (asRow_one dgS)
  have HI := Lib.hid (show (Tryz.prog.info? 102).map (·.size) = some (asRow dgS).size by rw [asRow_size]; exact infoAS)
  generalize hX : asRow dgS = X at *
  have HX := Lib.hid hX
  clear hX hl hdl hne
  go_enter Tryz.func93, Tryz.ntmps93
  go_wp2_with fail
  refine (HS.out _).mono ?_
  rintro e w1 ⟨rfl, b1⟩
  have B1 := Lib.hid b1
  have hz := b1.size
  clear b1
  have HZS := Lib.hid (show Tryz.zeroCells102.size = X.size by rw [← HX.out, zeroAS, asRow_size, asRow_size])
  have HZR := Lib.hid (heap_alloc_new w1 (.cells Tryz.zeroCells102 102))
  go_wp2_with (refine wpList_store_row rfl 102 _ _ rfl w1.heap.size X rfl rfl 102 _ HZR.out HI.out HZS.out HO.out ?_)
  refine (HR.out _ _ _ (setRow_heap _ _ _ _ _ _ HZR.out)).mono ?_
  rintro e w' ⟨rfl, rfl⟩
  go_wp2_with fail
  refine (HL.out _ _ _ (setRow_heap _ _ _ _ _ _ HZR.out)).mono ?_
  rintro e w' ⟨rfl, rfl⟩
  go_wp2_with fail
  go_ret
  exact ⟨by rfl, below_setRowV (B1.out.alloc hz _) hz _⟩
end Go.Proofs.YtceeilojcifgeaaGreatDoor
