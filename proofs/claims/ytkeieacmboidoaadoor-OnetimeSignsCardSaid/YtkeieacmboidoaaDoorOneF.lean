/-
  One-time signatures: the statements' own check awake, and the walk of OnetimeDigits (condition: a digest of 32 bytes).
-/
import Derived.Test.YtkeieacmboidoaaDoorOneE
namespace Go.Proofs.YtkeieacmboidoaaDoor
open Go.RowKit Go.Proofs.YtkeieacmboidoaaDoor.One

theorem OwnN.cells {w : World} {base : Nat} {sp : Option Addr} {n cap : Nat} {l : List Int} (h : OwnN w base (.slice sp n cap) l) (hl : l.length = n) (hn : 0 < n) :
    ∃ g, sp = some ⟨g, 0, none⟩ ∧ g < w.heap.size ∧ n ≤ cap ∧ ∀ j, j < n → w.cell? ⟨g, j, none⟩ = some (.int .i64 (l.getD j 0)) := by
  obtain ⟨h0, h | ⟨g, c, cur, e, hg, h1, h2, h3, h4, h5⟩⟩ := h
  · have e := h.1; simp only [Value.slice.injEq] at e; omega
  · simp only [Value.slice.injEq] at e
    obtain ⟨e1, e2, e3⟩ := e
    subst e3
    refine ⟨g, e1, (Array.getElem?_eq_some_iff.1 h1).1, by omega, fun j hj => ?_⟩
    rw [cell_of_row w g j _ _ _ h1]
    have h6 : (nv l)[j]? = some (.int .i64 (l.getD j 0)) := by
      unfold nv
      rw [List.getElem?_map, List.getD_eq_getElem?_getD, List.getElem?_eq_getElem (by omega)]; rfl
    rw [← h5, List.getElem?_take, if_pos (by omega)] at h6
    simpa using h6
theorem zed_digs : digs zed = List.replicate 64 0 ++ [3, 0, 0, 0] := by decide +kernel
theorem zed_arg : dgA zed = #[Value.int .u8 0, Value.int .u8 0, Value.int .u8 0, Value.int .u8 0, Value.int .u8 0, Value.int .u8 0, Value.int .u8 0, Value.int .u8 0, Value.int .u8 0, Value.int .u8 0, Value.int .u8 0, Value.int .u8 0, Value.int .u8 0, Value.int .u8 0, Value.int .u8 0, Value.int .u8 0, Value.int .u8 0, Value.int .u8 0, Value.int .u8 0, Value.int .u8 0, Value.int .u8 0, Value.int .u8 0, Value.int .u8 0, Value.int .u8 0, Value.int .u8 0, Value.int .u8 0, Value.int .u8 0, Value.int .u8 0, Value.int .u8 0, Value.int .u8 0, Value.int .u8 0, Value.int .u8 0] := rfl
set_option maxRecDepth 100000 in
set_option maxHeartbeats 1000000 in
theorem awake8_any (w : World) : Calls Tryd.prog 7 #[] w fun e w' => e = .returned (.bool true) ∧ Below w.heap.size w w' := by
  have HC := Lib.hid (digits_any zed D32.zed w)
  rw [zed_arg] at HC
  go_enter Tryd.func7, Tryd.ntmps7
  go_wp2_with fail
  refine HC.out.mono ?_
  rintro e w1 ⟨sp, cap, rfl, hown, hb⟩
  obtain ⟨g, rfl, hg, hc, hr⟩ := hown.cells (digs_length D32.zed.1) (by decide)
  have c0 := hr 0 (by decide); have c1 := hr 64 (by decide); have c2 := hr 65 (by decide)
  have HB := Lib.hid hb
  rw [zed_digs] at c0 c1 c2
  have e0 : (List.replicate 64 (0 : Int) ++ [3, 0, 0, 0]).getD 0 0 = 0 := rfl
  have e1 : (List.replicate 64 (0 : Int) ++ [3, 0, 0, 0]).getD 64 0 = 3 := rfl
  have e2 : (List.replicate 64 (0 : Int) ++ [3, 0, 0, 0]).getD 65 0 = 0 := rfl
  rw [e0] at c0; rw [e1] at c1; rw [e2] at c2
  clear hown hr hb e0 e1 e2 HC hg hc
  go_wp2
  go_wp2
  go_ret
  exact ⟨rfl, HB.out⟩

end Go.Proofs.YtkeieacmboidoaaDoor
