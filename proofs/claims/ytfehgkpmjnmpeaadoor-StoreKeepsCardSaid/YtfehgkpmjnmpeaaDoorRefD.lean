/-
  The walks of the reference's Leaf and Node (conditions: the arguments read as lists of bytes).
-/
import Derived.Test.YtfehgkpmjnmpeaaDoorGb
import Derived.Test.YtfehgkpmjnmpeaaDoorGa
namespace Go.Proofs.YtfehgkpmjnmpeaaDoor
open Go.RowKit

/-- a literal of one byte: a new block, its value behind a name -/
theorem wpList_build1 {P : Program} {w : World} {ops : Array Oper} {rest : List Oper} {o : Oper} {a : Act} {Q : Exit → Act → World → Prop} (hgd : o.guard = none) (t e : TypeId) (c : Int)
    (ho : o.op = .buildSlice t 1 #[(0, .const (.int .u8 c))]) (hrun : ∀ w, (Instr.buildSlice t 1 #[(0, .int .u8 c)]).run P w = .ok (.slice (some ⟨w.heap.size, 0, none⟩) 1 1) (w.alloc (.cells #[.int .u8 c] e)))
    (h : ∀ v0 w0, Hid (v0 = .slice (some ⟨w.heap.size, 0, none⟩) 1 1) → Hid (w0 = w.alloc (.cells #[.int .u8 c] e)) → wpList P ops Q rest (a.put o.dst v0) w0) : wpList P ops Q (o :: rest) a w := by
  refine wpList_plain hgd fun K hK => ?_
  have hk := hK _ _ (h _ _ rfl rfl)
  have hr := hrun w
  unfold Oper.wp execOp
  simp only [ho]
  simp [Act.eval, hr]
  exact hk
theorem own_made1 (w : World) (base : Nat) (e : TypeId) (c : Int) (hb : base ≤ w.heap.size) : (w.alloc (.cells #[.int .u8 c] e)).ownsRow base e 1 (.slice (some ⟨w.heap.size, 0, none⟩) 1 1) 1 ([c].map (Value.int .u8)) :=
  ⟨by simp, .inr ⟨w.heap.size, 1, _, rfl, hb, heap_alloc_new w _, Nat.le_refl _, by unfold maxLen; omega, rfl, by simp⟩⟩
set_option maxRecDepth 100000 in
set_option maxHeartbeats 1000000 in
theorem refNode_any (a b : List Int) (w : World) (ha : a.length = 32) (hb : b.length = 32) (hA : Byt a) (hB' : Byt b) :
    Calls Tryd.prog 51 #[.agg (a.map (Value.int .u8)).toArray, .agg (b.map (Value.int .u8)).toArray] w (SumRes w (1 :: (a ++ b))) := by
  have hra := row_new w 32 .u8 a
  have hba := below_alloc w (.cells (a.map (Value.int .u8)).toArray 32)
  have hsa := alloc_size w (.cells (a.map (Value.int .u8)).toArray 32)
  have HRA := Lib.hid hra; have HBA := Lib.hid hba; have HSA := Lib.hid hsa; clear hra hba hsa
  have HLA := Lib.hid ha; have HLB := Lib.hid hb; clear ha hb
  go_enter Tryd.func51, Tryd.ntmps51
  go_wp2_with fail
  generalize hwa : World.alloc w _ = wa
  have hra : RowIn wa w.heap.size 32 .u8 a := by rw [← hwa]; exact HRA.out
  have hba : Below w.heap.size w wa := by rw [← hwa]; exact HBA.out
  have hsa : wa.heap.size = w.heap.size + 1 := by rw [← hwa]; exact HSA.out
  clear hwa HRA HBA HSA
  have hrb := row_new wa 32 .u8 b
  have hbb := below_alloc wa (.cells (b.map (Value.int .u8)).toArray 32)
  have hsb := alloc_size wa (.cells (b.map (Value.int .u8)).toArray 32)
  generalize World.alloc wa (.cells (b.map (Value.int .u8)).toArray 32) = wb at *
  have HN := NewZ.new wb
  generalize hw0 : World.alloc wb _ = w0
  have hn : NewZ wb w0 := by rw [← hw0]; exact HN
  clear hw0 HN
  have hs0 := hn.s
  have HO := Lib.hid (own_made1 w0 w0.heap.size 5 1 (Nat.le_refl _))
  have hb1 := below_alloc w0 (.cells #[.int .u8 1] 5)
  rw [show w0.heap.size = w.heap.size + 1 + 1 + 1 by omega] at HO
  generalize hw1 : World.alloc w0 _ = w1
  rw [hw1] at HO hb1
  clear hw1
  have HB1 := Lib.hid hb1
  have hs1 := hb1.size
  have HA0 : Hid (RowIn w0 w.heap.size 32 .u8 a) := (hra.below hbb (by omega)).below hn.b (by omega)
  have HB0 : Hid (RowIn w0 (w.heap.size + 1) 32 .u8 b) := by rw [hsa] at hrb; exact hrb.below hn.b (by omega)
  have HZ0 : Hid (Zrow w0 (w.heap.size + 1 + 1)) := by rw [show w.heap.size + 1 + 1 = wb.heap.size by omega]; exact hn.z
  have HW0 : Hid (Below w.heap.size w w0) := (hba.trans (hbb.mono (by omega))).trans (hn.b.mono (by omega))
  have hs3 : w0.heap.size = w.heap.size + 1 + 1 + 1 := by omega
  have HS3 := Lib.hid hs3
  obtain ⟨B, hB⟩ : ∃ B, w.heap.size + 1 + 1 + 1 = B := ⟨_, rfl⟩
  have hBlt : w.heap.size + 1 + 1 < B := by omega
  rw [hB] at HO HS3
  rw [hB]
  rw [HS3.out] at HB1 hs1
  clear hs3 hB hb1 hs0 hsb hbb hrb hn hsa hba hra
  have hAB : Byt ([1] ++ a ++ b) := fun x hx => by
    rcases List.mem_append.1 hx with hx | hx
    · rcases List.mem_append.1 hx with hx | hx
      · simp at hx; omega
      · exact hA x hx
    · exact hB' x hx
  have HAB := Lib.hid hAB
  clear hA hB' hAB
  go_loopg [5, 6] 32 (fun g v i wx => ∃ (j N : Nat) (sp : Option Addr) (cap : Nat), j + g = 32 ∧ N = j + 1 ∧ i = .int .i64 j ∧ v = .slice sp N cap ∧ Hid (wx.ownsRow B 5 1 (.slice sp N cap) N (([1] ++ a.take j).map (Value.int .u8))) ∧ Hid (Below B w0 wx))
  case atStart => exact ⟨0, 1, _, 1, rfl, rfl, rfl, rfl, HO.out, HB1.out⟩
  case round =>
    clear HO HB1 hs1
    obtain ⟨j, N, sp4, cap4, hjg, hN, rfl, rfl, hown, hbe⟩ := hrel
    have hbs : B ≤ wr.heap.size := by rw [← HS3.out]; exact hbe.out.size
    by_cases hj : j < 32
    · have hc1 : decide ((j : Int) < 32) = true := by simp; omega
      have ca := (HA0.out.below hbe.out (by omega)).get j (by rw [HLA.out]; exact hj)
      have q1 : (0 : Int) ≤ (j : Int) := by omega
      have q2 : (j : Int) < 32 := by omega
      obtain ⟨x, hx⟩ : ∃ x, a.getD j 0 = x := ⟨_, rfl⟩
      rw [hx] at ca
      have HX := Lib.hid hx; clear hx
      have HLL : Hid (N = ([1] ++ a.take j).length) := by show _ = _; rw [List.length_append, List.length_take, HLA.out, hN]; simp; omega
      go_wp2_with (at_builtin; refine wpList_append_byte rfl (.tmp 13) (.tmp 17) 35 5 rfl Tryd.underlying35 Tryd.info5a B _ ([1] ++ a.take j) N rfl HLL.out (hown.out.alloc _) wr.heap.size x rfl (by simp) (by omega) (by simp; omega) ?_; intro sp5 cap5 w5 hown5 hg5)
      have hbe5 := (hbe.out.alloc hbs (.cells #[.int .u8 x] 5)).grown hg5 (by simp; omega) (own_baseC hown.out)
      go_roundg (32 - (j + 1))
      case measure => omega
      case rel =>
        refine ⟨j + 1, N + 1, sp5, cap5, by omega, by omega, by go_num, by rw [hN], ?_, hbe5⟩
        have := hown5.out
        show World.ownsRow _ _ _ _ _ _ _
        rw [take_snoc0 _ _ (by rw [HLA.out]; exact hj), ← List.append_assoc, HX.out]; exact this
    · obtain rfl : j = 32 := by omega
      subst hN
      rw [List.take_of_length_le (by rw [HLA.out]; exact Nat.le_refl _)] at hown
      have hc1 : decide ((32 : Int) < 32) = false := by decide
      rw [show ((32 : Nat) : Int) = 32 from rfl]
      go_wp2_with fail
      go_loopg [5, 7] 32 (fun g v i wx => ∃ (j N : Nat) (sp : Option Addr) (cap : Nat), j + g = 32 ∧ N = j + 33 ∧ i = .int .i64 j ∧ v = .slice sp N cap ∧ Hid (wx.ownsRow B 5 1 (.slice sp N cap) N (([1] ++ a ++ b.take j).map (Value.int .u8))) ∧ Hid (Below B w0 wx))
      case atStart => exact ⟨0, 33, _, _, rfl, rfl, rfl, rfl, by show World.ownsRow _ _ _ _ _ _ _; simpa using hown.out, hbe⟩
      case round =>
        clear hown hbe hbs hc1
        obtain ⟨j, N, sp6, cap6, hjg, hN, rfl, rfl, hown, hbe⟩ := hrel
        have hbs : B ≤ wr.heap.size := by rw [← HS3.out]; exact hbe.out.size
        by_cases hj : j < 32
        · have hc1 : decide ((j : Int) < 32) = true := by simp; omega
          have cb := (HB0.out.below hbe.out (by omega)).get j (by rw [HLB.out]; exact hj)
          have q1 : (0 : Int) ≤ (j : Int) := by omega
          have q2 : (j : Int) < 32 := by omega
          obtain ⟨x, hx⟩ : ∃ x, b.getD j 0 = x := ⟨_, rfl⟩
          rw [hx] at cb
          have HX := Lib.hid hx; clear hx
          have HLL : Hid (N = ([1] ++ a ++ b.take j).length) := by show _ = _; rw [List.length_append, List.length_take, HLB.out, List.length_append, HLA.out, hN]; simp; omega
          go_wp2_with (at_builtin; refine wpList_append_byte rfl (.tmp 23) (.tmp 27) 35 5 rfl Tryd.underlying35 Tryd.info5a B _ ([1] ++ a ++ b.take j) N rfl HLL.out (hown.out.alloc _) wr.heap.size x rfl (by simp) (by omega) (by simp; omega) ?_; intro sp5 cap5 w5 hown5 hg5)
          have hbe5 := (hbe.out.alloc hbs (.cells #[.int .u8 x] 5)).grown hg5 (by simp; omega) (own_baseC hown.out)
          go_roundg (32 - (j + 1))
          case measure => omega
          case rel =>
            refine ⟨j + 1, N + 1, sp5, cap5, by omega, by omega, by go_num, by rw [hN], ?_, hbe5⟩
            have := hown5.out
            show World.ownsRow _ _ _ _ _ _ _
            rw [take_snoc0 _ _ (by rw [HLB.out]; exact hj), ← List.append_assoc, HX.out]; exact this
        · obtain rfl : j = 32 := by omega
          subst hN
          rw [List.take_of_length_le (by rw [HLB.out]; exact Nat.le_refl _)] at hown
          have hc1 : decide ((32 : Int) < 32) = false := by decide
          rw [show ((32 : Nat) : Int) = 32 from rfl]
          have hl2 : ([1] ++ a ++ b).length = 65 := by rw [List.length_append, List.length_append, HLA.out, HLB.out]; rfl
          have ho := hown.out
          rw [show 32 + 33 = 65 from rfl, ← hl2] at ho
          obtain ⟨sp7, cap7, e7, hsrc, hnil⟩ := src_of_own ho HAB.out
          injection e7 with e1 e2 e3
          subst e1 e3
          rw [hl2] at hsrc
          have HSRC := Lib.hid hsrc; have HNIL := Lib.hid hnil
          have HZ := Lib.hid (HZ0.out.below hbe.out (by omega))
          have HWR : Hid (Below w.heap.size w wr) := HW0.out.trans (hbe.out.mono (by omega))
          clear ho hsrc hnil hown hbe hl2
          go_wp2_with fail
          refine (refSum_any sp6 65 cap6 ([1] ++ a ++ b) wr HSRC.out HNIL.out (by omega)).mono ?_
          rintro e w3 ⟨rfl, hb3⟩
          have H2 := Lib.hid (HZ.out.below hb3 (by omega))
          have HB3 := Lib.hid (HWR.out.trans (hb3.mono (by omega)))
          clear hb3
          go_wp2_with (refine wpList_store_row rfl 32 _ _ rfl (w.heap.size + 1 + 1) _ rfl rfl 32 _ H2.out (dg_info _) (by rw [dg_size]; rfl) (dg_one _) ?_)
          exact bodyPost_ret (results_cell_row (P := Tryd.prog) rfl _ _ (w.heap.size + 1 + 1) 32 _ (0, 0) _ rfl (setRow_heap _ _ _ _ _ _ H2.out) Tryd.underlying32 rfl (dg_info _)) rfl ⟨rfl, below_setRow HB3.out (by omega) _⟩
end Go.Proofs.YtfehgkpmjnmpeaaDoor
