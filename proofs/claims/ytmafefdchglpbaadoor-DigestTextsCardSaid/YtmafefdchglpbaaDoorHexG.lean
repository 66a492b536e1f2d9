/-
  The walk of digest.Parse (condition: the string's length is an int).
-/
import Derived.Test.YtmafefdchglpbaaDoorHexF
namespace Go.Proofs.YtmafefdchglpbaaDoor
open Go.RowKit

/-- whether a text is a digest's; its bytes, zeros if it is not -/
def ppok (l : List UInt8) : Bool := decide (l.take 7 = pfx.data.toList) && pok (l.drop 7) 32
def ppby (l : List UInt8) : List Int := if ppok l = true then hbs (l.drop 7) 32 else List.replicate 32 0
set_option maxRecDepth 100000 in
set_option maxHeartbeats 1000000 in
theorem Parse_any (s : ByteArray) (w : World) (hs : s.size ≤ 9223372036854775807) :
    Calls Tryd.prog 9 #[.string s] w fun e w' => e = .returned (.tuple #[.agg ((ppby s.data.toList).map (Value.int .u8)).toArray, .bool (ppok s.data.toList)]) ∧ Below w.heap.size w w' := by
  have HR := Lib.hid (row_new w 23 .u8 (List.replicate 32 0))
  have HB := Lib.hid (below_alloc w (.cells ((List.replicate 32 0).map (Value.int .u8)).toArray 23))
  have HSZ := Lib.hid (alloc_size w (.cells ((List.replicate 32 0).map (Value.int .u8)).toArray 23))
  have HC : Hid (∀ w, Calls Tryd.prog 35 #[.string s, .string ⟨#[115, 104, 97, 50, 53, 54, 58]⟩] w fun e w' => e = .returned (if s.data.toList.take 7 = pfx.data.toList then .tuple #[.string (s.extract 7 s.size), .bool true] else .tuple #[.string s, .bool false]) ∧ w = w') := fun w => cut_any s w hs
  have hbz := bzD
  have HDD : Hid ((s.extract 7 s.size).data.toList = s.data.toList.drop 7) := by show _ = _; rw [ext_data, List.take_of_length_le (by rw [← Lib.size_eq]; exact Nat.le_refl _)]
  clear hs
  go_enter Tryd.func9, Tryd.ntmps9
  go_wp2_with fail
  generalize hw0 : World.alloc w _ = w0
  have hr0 : RowIn w0 w.heap.size 23 .u8 (List.replicate 32 0) := by rw [← hw0]; exact HR.out
  have hb0 : Below w.heap.size w w0 := by rw [← hw0]; exact HB.out
  have hs0 : w0.heap.size = w.heap.size + 1 := by rw [← hw0]; exact HSZ.out
  clear hw0 HR HB HSZ
  have hr1 : RowIn (w0.alloc (.cells (Array.replicate 32 (Value.int .u8 0)) 23)) w0.heap.size 23 .u8 (List.replicate 32 0) := row_new w0 23 .u8 (List.replicate 32 0)
  have hb1 := below_alloc w0 (.cells (Array.replicate 32 (Value.int .u8 0)) 23)
  generalize hw1 : World.alloc w0 _ = w1
  have hr1' : RowIn w1 (w.heap.size + 1) 23 .u8 (List.replicate 32 0) := by rw [← hw1, ← hs0]; exact hr1
  have hb1' : Below w0.heap.size w0 w1 := by rw [← hw1]; exact hb1
  clear hw1 hr1 hb1
  have hr01 := hr0.below hb1' (by omega)
  have hbe1 := hb0.trans (hb1'.mono (by omega))
  have HR1 := Lib.hid hr1'; have HR01 := Lib.hid hr01; have HBE1 := Lib.hid hbe1
  clear hr0 hb0 hs0 hr1' hb1' hr01 hbe1
  have HPB : Hid (ppby s.data.toList = if ppok s.data.toList = true then hbs (s.data.toList.drop 7) 32 else List.replicate 32 0) := rfl
  have HI : Hid ((Tryd.prog.info? 23).map (·.size) = some (zrow 32).size) := row_info32 (List.replicate 32 0) (by simp)
  have HO : Hid ((zrow 32).all (·.oneCell') = true) := oneCell_map .u8 _
  have HS : Hid (((List.replicate 32 (0 : Int)).map (Value.int .u8)).toArray.size = (zrow 32).size) := rfl
  refine (HC.out _).mono ?_
  by_cases hb : s.data.toList.take 7 = pfx.data.toList
  · have HP : Hid (ppok s.data.toList = (decide ((s.extract 7 s.size).size = 2 * 32) && hok (s.extract 7 s.size).data.toList 32)) := by show _ = _; unfold ppok pok; rw [decide_eq_true hb, Bool.true_and, Lib.size_eq, HDD.out]
    rw [if_pos hb]
    clear hb
    rintro e w' ⟨rfl, rfl⟩
    go_wp2_with fail
    refine (unhex_any (w.heap.size + 1) 23 (List.replicate 32 0) 32 (s.extract 7 s.size) _ HR1.out (by simp) (by omega)).mono ?_
    rintro e w2 ⟨L, rfl, hL, hr2, hgr, hfin⟩
    have HR2 := Lib.hid hr2
    have HR0 := Lib.hid (HR01.out.grown hgr (by omega))
    have HBE : Hid (Below w.heap.size w w2) := HBE1.out.trans ((below_of_grown hgr (by have := HR1.out.lt; omega)).mono (by omega))
    rw [HDD.out] at hfin HP ⊢
    clear hr2 hgr
    generalize (decide ((s.extract 7 s.size).size = 2 * 32) && hok (s.data.toList.drop 7) 32) = bv at *
    have HLL := Lib.hid hL; clear hL
    cases bv
    · have HPB2 : Hid (ppby s.data.toList = List.replicate 32 0) := by show _ = _; rw [HPB.out, if_neg (by rw [HP.out]; simp)]
      clear hfin
      go_wp2_with (refine wpList_store_row rfl 23 _ _ rfl w.heap.size (zrow 32) rfl rfl 23 _ HR0.out HI.out HS.out HO.out ?_)
      exact bodyPost_ret (results_row_tmp (P := Tryd.prog) rfl _ _ w.heap.size 23 (zrow 32) (0, 0) _ rfl (setRow_heap _ _ _ _ _ _ HR0.out) Tryd.underlying23 rfl HI.out) rfl ⟨by rw [HPB2.out, HP.out]; rfl, below_setRow HBE.out (Nat.le_refl _) _⟩
    · have HPB2 : Hid (ppby s.data.toList = L) := by show _ = _; rw [HPB.out, if_pos HP.out, hfin rfl]
      clear hfin hbz
      have HI := Lib.hid (row_info32 L HLL.out); have HO := Lib.hid (oneCell_map .u8 L); have HS := Lib.hid (row_sizes (List.replicate 32 0) L (by rw [HLL.out]; simp))
      go_wp2_with (first
        | (refine wpList_load_row rfl 23 _ rfl (w.heap.size + 1) rfl 23 _ (0, 0) _ HR2.out Tryd.underlying23 rfl HI.out ?_)
        | (refine wpList_store_row rfl 23 _ _ rfl w.heap.size _ rfl rfl 23 _ HR0.out HI.out HS.out HO.out ?_))
      exact bodyPost_ret (results_row_tmp (P := Tryd.prog) rfl _ _ w.heap.size 23 _ (0, 0) _ rfl (HR0.out.setRow _) Tryd.underlying23 rfl HI.out) rfl ⟨by rw [HPB2.out, HP.out]; rfl, below_setRow HBE.out (Nat.le_refl _) _⟩
  · have HP : Hid (ppok s.data.toList = false) := by show _ = _; unfold ppok; rw [decide_eq_false hb]; rfl
    have HPB2 : Hid (ppby s.data.toList = List.replicate 32 0) := by show _ = _; rw [HPB.out, if_neg (by rw [HP.out]; simp)]
    rw [if_neg hb]
    clear hb
    rintro e w' ⟨rfl, rfl⟩
    go_wp2_with (refine wpList_store_row rfl 23 _ _ rfl w.heap.size (zrow 32) rfl rfl 23 _ HR01.out HI.out HS.out HO.out ?_)
    exact bodyPost_ret (results_row_tmp (P := Tryd.prog) rfl _ _ w.heap.size 23 (zrow 32) (0, 0) _ rfl (setRow_heap _ _ _ _ _ _ HR01.out) Tryd.underlying23 rfl HI.out) rfl ⟨by rw [HPB2.out, HP.out]; rfl, below_setRow HBE1.out (Nat.le_refl _) _⟩
end Go.Proofs.YtmafefdchglpbaaDoor
