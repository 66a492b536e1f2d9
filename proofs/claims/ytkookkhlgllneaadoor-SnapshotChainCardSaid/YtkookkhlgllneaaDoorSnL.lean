/-
  The walks of the reference's find and Lookup (conditions: digests of 32 bytes, at most 1000000 elements).
-/
import Derived.Test.YtkookkhlgllneaaDoorSnK
namespace Go.Proofs.YtkookkhlgllneaaDoor
open Go.RowKit

theorem results_row_tmpS {P : Program} {fn : Func} {p u : Tmp} {ty : TypeId} (h : fn.results = #[.cell p ty, .tmp u]) (tmps : Array Value) (w : World) (g : Nat) (t : TypeId) (cs : Array Value) (fr : Nat × Nat) (d : TypeDesc)
    (hp : tmps.getD p undef = .pointer (some ⟨g, 0, none⟩)) (hg : w.heap[g]? = some (.cells cs t fr))
    (hu : P.underlying ty = some d) (hd : (match d with | .struct _ | .array _ _ => true | _ => false) = true) (hi : (P.info? ty).map (·.size) = some cs.size) :
    (results fn tmps).run P w = .ok (.tuple #[.agg cs, tmps.getD u undef]) w := by
  have hp' : tmps[p]?.getD undef = .pointer (some ⟨g, 0, none⟩) := by simpa using hp
  simp [results, h, hp', asAddr, run_loadVar_row w g t ty cs fr d hg hu hd hi]
theorem find_take_none {α : Type} {f : α → ByteArray} {l : List α} {p : ByteArray} {k : Nat} {x : α} (h : (l.take k).find? (fun x => decide (f x = p)) = none) (hx : l[k]? = some x) (hn : f x ≠ p) : (l.take (k + 1)).find? (fun x => decide (f x = p)) = none := by
  rw [List.take_add_one, hx, List.find?_append, h]; simp [hn]
theorem find_take_some {α : Type} {f : α → ByteArray} {l : List α} {p : ByteArray} {k : Nat} {x : α} (h : (l.take k).find? (fun x => decide (f x = p)) = none) (hx : l[k]? = some x) (hn : f x = p) : l.find? (fun x => decide (f x = p)) = some x := by
  have hl := (List.getElem?_eq_some_iff.1 hx).1
  have e : l = l.take k ++ x :: l.drop (k + 1) := by
    rw [← (List.getElem?_eq_some_iff.1 hx).2, ← List.drop_eq_getElem_cons hl, List.take_append_drop]
  rw [e, List.find?_append, h]; simp [hn]
/-- what find, Lookup leave -/
def FindRes (w : World) (r : Option Cg) (e : Ending) (w' : World) : Prop := match r with
  | none => e = .returned (.tuple #[.agg (cgL ⟨⟨#[]⟩, zed, zed⟩).toArray, .bool false]) ∧ Below w.heap.size w w'
  | some x => e = .returned (.tuple #[.agg (cgL x).toArray, .bool true]) ∧ Below w.heap.size w w'
def LookRes (w : World) (r : Option En) (e : Ending) (w' : World) : Prop := match r with
  | none => e = .returned (.tuple #[.agg (zed.map (Value.int .u8)).toArray, .bool false]) ∧ Below w.heap.size w w'
  | some x => e = .returned (.tuple #[.agg (x.d.map (Value.int .u8)).toArray, .bool true]) ∧ Below w.heap.size w w'
theorem zeroCg_ok : OkC ⟨⟨#[]⟩, zed, zed⟩ := ⟨D32.zed, D32.zed⟩
theorem dgA_one (d : List Int) : ((d.map (Value.int .u8)).toArray).all (·.oneCell') = true := Array.all_eq_true_iff_forall_mem.2 (by simp [Value.oneCell'])
set_option maxRecDepth 100000 in
set_option maxHeartbeats 1000000 in
theorem rlook_any (sp : Option Addr) (n cap : Nat) (l : List En) (p : ByteArray) (w : World) (hl : EnsIn w w.heap.size sp n cap l) (hn : n ≤ 1000000) :
    Calls Tryd.prog 15 #[.slice sp n cap, .string p] w (LookRes w (fe l p)) := by
  have HL := Lib.hid hl; clear hl
  have HI0 : Hid ((Tryd.prog.info? 28).map (·.size) = some (zed.map (Value.int .u8)).toArray.size) := by show _ = _; rw [List.size_toArray]; exact info_d D32.zed
  have HI0s : Hid (32 = (zed.map (Value.int .u8)).toArray.size) := by show _ = _; rfl
  go_enter Tryd.func15, Tryd.ntmps15
  go_wp2_with fail
  generalize hw1 : World.alloc w _ = w1
  have hr1 : w1.heap[w.heap.size]? = some (.cells (Array.replicate 32 (Value.int .u8 0)) 28 (0, 0)) := by rw [← hw1]; exact heap_alloc_new _ _
  have hb1 : Below w.heap.size w w1 := by rw [← hw1]; exact (Below.refl _ _).alloc (Nat.le_refl _) _
  have HR1 := Lib.hid hr1; have HB1 := Lib.hid hb1
  clear hw1 hr1 hb1
  go_loop [6] (fun i => ∃ k : Nat, k ≤ n ∧ i = .int .i64 k ∧ Hid ((l.take k).find? (fun x => decide (x.p = p)) = none)) (fun i => n - (intOf i).toNat)
  case atStart => exact ⟨0, Nat.zero_le _, rfl, rfl⟩
  case round =>
  obtain ⟨k, hk, rfl, HA⟩ := hrel
  by_cases hlt : k < n
  · have hd : decide ((k : Int) < (n : Int)) = true := by simp; omega
    obtain ⟨x, hx⟩ : ∃ x, l[k]? = some x := ⟨l[k]'(by have := HL.out.len; omega), List.getElem?_eq_getElem _⟩
    obtain ⟨b, off, rfl, hbB, hcap, -⟩ := HL.out.cells (by omega)
    have hxr := range_belowS (HL.out.at hx).2 HB1.out hbB
    have hxp := rngE_p hxr
    have HXR := Lib.hid hxr
    have HOX := Lib.hid (HL.out.ok x (List.mem_of_getElem? hx))
    have HI1 : Hid ((Tryd.prog.info? 28).map (·.size) = some (x.d.map (Value.int .u8)).toArray.size) := by show _ = _; rw [List.size_toArray]; exact info_d HOX.out
    have HI1s : Hid (32 = (x.d.map (Value.int .u8)).toArray.size) := by show _ = _; rw [List.size_toArray]; simpa using (show 32 = x.d.length from HOX.out.1.symm)
    have p1 : (0 : Int) ≤ (k : Int) := by omega
    have p2 : (k : Int) < (n : Int) := by omega
    by_cases hxe : x.p = p
    · have HF : Hid (fe l p = some x) := find_take_some HA.out hx hxe
      have hte : (x.p.toList == p.toList) = true := by rw [hxe]; simp
      clear hx hxe hxr
      go_wp2_with (first
        | (refine wpList_load_mid rfl 28 _ rfl b (off + k * 33 + 1) rfl _ _ (rngE_d HXR.out) Tryd.underlying28 rfl (info_d HOX.out) ?_)
        | (refine wpList_store_row rfl 28 _ _ rfl w.heap.size _ rfl rfl 28 _ HR1.out HI1.out ((rfl : ((Array.replicate 32 (Value.int .u8 0))).size = 32).trans HI1s.out) (dgA_one x.d) ?_; have hr2 := setRow_heap _ _ _ (x.d.map (Value.int .u8)).toArray _ _ HR1.out; have hb2 := below_setRow HB1.out (Nat.le_refl w.heap.size) (x.d.map (Value.int .u8)).toArray; generalize World.setRow _ _ _ = w2 at hr2 hb2 ⊢; have HR2 := Lib.hid hr2; have HB2 := Lib.hid hb2; clear hr2 hb2))
      refine bodyPost_ret (results_row_tmpS (P := Tryd.prog) rfl _ _ w.heap.size 28 _ (0, 0) _ rfl HR2.out Tryd.underlying28 rfl HI1.out) rfl ?_
      rw [HF.out]
      exact ⟨rfl, HB2.out⟩
    · have HF := Lib.hid (find_take_none HA.out hx hxe)
      have hte : (x.p.toList == p.toList) = false := by rw [beq_eq_false_iff_ne]; exact fun e => hxe (toList_inj e)
      clear hx hxe hxr
      go_wp2_with fail
      go_round
      case rel => exact ⟨k + 1, by omega, by go_num, HF⟩
      case measure => simp [intOf]; omega
  · obtain rfl : k = n := by omega
    have hd : decide ((k : Int) < (k : Int)) = false := by simp
    have HF : Hid (fe l p = none) := by have := HA.out; rw [List.take_of_length_le (by rw [HL.out.len]; exact Nat.le_refl _)] at this; exact this
    go_wp2_with (refine wpList_store_row rfl 28 _ _ rfl w.heap.size (zed.map (Value.int .u8)).toArray rfl (by rfl) 28 _ HR1.out HI0.out ((rfl : ((Array.replicate 32 (Value.int .u8 0))).size = 32).trans HI0s.out) (dgA_one _) ?_; have hr2 := setRow_heap _ _ _ (zed.map (Value.int .u8)).toArray _ _ HR1.out; have hb2 := below_setRow HB1.out (Nat.le_refl w.heap.size) (zed.map (Value.int .u8)).toArray; generalize World.setRow _ _ _ = w2 at hr2 hb2 ⊢; have HR2 := Lib.hid hr2; have HB2 := Lib.hid hb2; clear hr2 hb2)
    refine bodyPost_ret (results_row_tmpS (P := Tryd.prog) rfl _ _ w.heap.size 28 _ (0, 0) _ rfl HR2.out Tryd.underlying28 rfl HI0.out) rfl ?_
    rw [HF.out]
    exact ⟨rfl, HB2.out⟩
end Go.Proofs.YtkookkhlgllneaaDoor
