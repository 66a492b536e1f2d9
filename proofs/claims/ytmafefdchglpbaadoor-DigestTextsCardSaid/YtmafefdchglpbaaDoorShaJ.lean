/-
  The walks of digest.Sum, Leaf, Node and Half (conditions: the arguments read as lists of bytes of at most 2^40; the table of constants reads as it is laid).
-/
import Derived.Test.YtmafefdchglpbaaDoorShaI
namespace Go.Proofs.YtmafefdchglpbaaDoor
open Go.RowKit

theorem parts_block {w : World} {g B : Nat} {ps : List Part} (hg : w.heap[g]? = some (.cells (ps.map Part.val).toArray 34 (0, 0))) (hlt : g < B) (hs : ∀ q ∈ ps, Src w B q.sp q.n q.cap q.b) : PartsIn w B (some ⟨g, 0, none⟩) ps.length ps :=
  ⟨rfl, fun _ => ⟨g, 0, rfl, hlt, fun j hj => by rw [Nat.zero_add]; exact heap_cell hg (by simp [hj])⟩, hs⟩
theorem bytes_block {w : World} {g B cap : Nat} {t : TypeId} {L : List Int} (hg : RowIn w g t .u8 L) (hL : Byt L) (hlt : g < B) (hc : L.length ≤ cap) : Src w B (some ⟨g, 0, none⟩) L.length cap L :=
  ⟨rfl, hL, fun _ => ⟨g, 0, rfl, hlt, hc, fun j hj => by rw [Nat.zero_add]; exact hg.get j hj⟩⟩
theorem below_alloc (w : World) (o : Obj) : Below w.heap.size w (w.alloc o) := (Below.refl _ _).alloc (Nat.le_refl _) _
theorem alloc_size (w : World) (o : Obj) : (w.alloc o).heap.size = w.heap.size + 1 := by simp
theorem row_new (w : World) (t : TypeId) (k : IntKind) (L : List Int) : RowIn (w.alloc (.cells (L.map (Value.int k)).toArray t)) w.heap.size t k L := heap_alloc_new _ _
theorem dg_size (l : List Int) : (dg l).size = 32 := by simp [dg, dbytes_length, St.list_length]
theorem dg_one (l : List Int) : (dg l).all (·.oneCell') = true := oneCell_map _ _
theorem dg_info (l : List Int) : (Tryd.prog.info? 23).map (·.size) = some (dg l).size := by rw [dg_size]; exact Tryd.info25d
/-- a row of 32 zeros -/
def Zrow (w : World) (b : Nat) : Prop := w.heap[b]? = some (.cells (Array.replicate 32 (Value.int .u8 0)) 23 (0, 0))
theorem Zrow.new (w : World) : Zrow (w.alloc (.cells (Array.replicate 32 (Value.int .u8 0)) 23)) w.heap.size := heap_alloc_new _ _
theorem Zrow.below {w w' : World} {b B : Nat} (h : Zrow w b) (hb : Below B w w') (hlt : b < B) : Zrow w' b := (hb.block b hlt).trans h
theorem Zrow.lt {w : World} {b : Nat} (h : Zrow w b) : b < w.heap.size := (Array.getElem?_eq_some_iff.1 h).1

theorem store25 {w : World} {b : Nat} (h : Zrow w b) (l : List Int) : (storeCells ⟨b, 0, none⟩ (dg l).toList).run Tryd.prog w = .ok () (w.setRow b (dg l)) := by
  have hl : (dg l).toList.length = 32 := by rw [Array.length_toList, dg_size]
  have := run_storeCells_at Tryd.prog b 0 23 (dg l).toList 0 _ w h (by rw [hl]; simp) (fun v hv => (Array.all_eq_true_iff_forall_mem.1 (dg_one l)) v (by simpa using hv))
  rw [this]
  have e : ((Array.replicate 32 (Value.int .u8 0)).toList.take (0 + 0) ++ (dg l).toList ++ (Array.replicate 32 (Value.int .u8 0)).toList.drop (0 + 0 + (dg l).toList.length)).toArray = dg l := by
    rw [List.drop_eq_nil_of_le (by rw [hl]; simp)]; simp
  rw [e]
/-- a new row of 32 zeros -/
structure NewZ (w w0 : World) : Prop where
  z : Zrow w0 w.heap.size
  b : Below w.heap.size w w0
  s : w0.heap.size = w.heap.size + 1
theorem NewZ.new (w : World) : NewZ w (w.alloc (.cells (Array.replicate 32 (Value.int .u8 0)) 23)) := ⟨Zrow.new w, below_alloc _ _, alloc_size _ _⟩

set_option maxRecDepth 100000 in
set_option maxHeartbeats 1000000 in
theorem Sum_any (sp : Option Addr) (n cap : Nat) (b : List Int) (w : World) (hs : Src w w.heap.size sp n cap b) (hk : KayIn w) (hk0 : 2 < w.heap.size) (hbd : n ≤ 1099511627776) :
    Calls Tryd.prog 38 #[.slice sp n cap] w (SumRes w b) := by
  have HK := Lib.hid hk; clear hk
  have HS := Lib.hid hs; clear hs
  have HN := Lib.hid (NewZ.new w)
  go_enter Tryd.func38, Tryd.ntmps38
  go_wp2_with fail
  generalize hw0 : World.alloc w _ = w0
  have hn : NewZ w w0 := by rw [← hw0]; exact HN.out
  clear hw0 HN
  have hb1 := below_alloc w0 (.cells #[.slice sp n cap] 34)
  have hs1 := alloc_size w0 (.cells #[.slice sp n cap] 34)
  have hg1 := heap_alloc_new w0 (.cells #[.slice sp n cap] 34)
  have hs0 := hn.s
  generalize World.alloc w0 _ = w1 at *
  have hz1 := hn.z.below hb1 hn.z.lt
  have hbe1 := hn.b.trans (hb1.mono hn.b.size)
  have hp : PartsIn w1 w1.heap.size (some ⟨w.heap.size + 1, 0, none⟩) 1 [⟨sp, n, cap, b⟩] := by
    refine parts_block (ps := [⟨sp, n, cap, b⟩]) ?_ (by omega) ?_
    · rw [← hs0]; exact hg1
    · intro q hq
      rw [List.mem_singleton.1 hq]
      exact (HS.out.below hbe1 (Nat.le_refl _)).more (by omega)
  have hc : cat [⟨sp, n, cap, b⟩] = b := by simp [cat]
  refine (sum_any _ 1 1 [⟨sp, n, cap, b⟩] w1 hp (HK.out.below hbe1 hk0) (by omega) (by rw [hc, HS.out.len]; exact hbd) (by omega)).mono ?_
  rintro e w2 ⟨rfl, hb2⟩
  rw [hc]
  clear hb1 hs1 hg1 hn hs0
  have hz2 := hz1.below hb2 hz1.lt
  have hbe2 := hbe1.trans (hb2.mono hbe1.size)
  clear hp hc hz1 hb2 hbe1
  have H2 := Lib.hid hz2; clear hz2
  go_wp2_with (refine wpList_store_row rfl 23 _ _ rfl w.heap.size _ rfl rfl 23 _ H2.out (dg_info _) (by rw [dg_size]; rfl) (dg_one _) ?_)
  exact bodyPost_ret (results_cell_row (P := Tryd.prog) rfl _ _ w.heap.size 23 _ (0, 0) _ rfl (setRow_heap _ _ _ _ _ _ H2.out) Tryd.underlying23 rfl (dg_info _)) rfl ⟨rfl, below_setRow hbe2 (by omega) _⟩
set_option maxHeartbeats 1000000 in
theorem node_sum (a b : List Int) (w wa wb w0 : World) (ha : a.length = 32) (hb : b.length = 32) (hA : Byt a) (hB : Byt b) (hk : KayIn w) (hk0 : 2 < w.heap.size)
    (hra : RowIn wa w.heap.size 23 .u8 a) (hba : Below w.heap.size w wa) (hsa : wa.heap.size = w.heap.size + 1)
    (hrb : RowIn wb (w.heap.size + 1) 23 .u8 b) (hbb : Below wa.heap.size wa wb) (hsb : wb.heap.size = wa.heap.size + 1) (hn : NewZ wb w0) :
    Calls Tryd.prog 60 #[.slice (some ⟨w0.heap.size + 1, 0, none⟩) 3 3] ((w0.alloc (.cells #[.int .u8 1] 5)).alloc (.cells #[.slice (some ⟨w0.heap.size, 0, none⟩) 1 1, .slice (some ⟨w.heap.size, 0, none⟩) 32 32, .slice (some ⟨w.heap.size + 1, 0, none⟩) 32 32] 34)).drew
      fun e w' => e = .returned (.agg (dg (1 :: (a ++ b)))) ∧ Zrow w' (w.heap.size + 1 + 1) ∧ Below w.heap.size w w' := by
  have hs0 := hn.s
  have hr1 : RowIn (w0.alloc (.cells #[.int .u8 1] 5)) w0.heap.size 5 .u8 [1] := row_new w0 _ .u8 [1]
  have hb1 := below_alloc w0 (.cells #[.int .u8 1] 5)
  have hs1 := alloc_size w0 (.cells #[.int .u8 1] 5)
  generalize World.alloc w0 _ = wc at *
  have hb2 := below_alloc wc (.cells #[.slice (some ⟨w0.heap.size, 0, none⟩) 1 1, .slice (some ⟨w.heap.size, 0, none⟩) 32 32, .slice (some ⟨w.heap.size + 1, 0, none⟩) 32 32] 34)
  have hs2 := alloc_size wc (.cells #[.slice (some ⟨w0.heap.size, 0, none⟩) 1 1, .slice (some ⟨w.heap.size, 0, none⟩) 32 32, .slice (some ⟨w.heap.size + 1, 0, none⟩) 32 32] 34)
  have hg2 := heap_alloc_new wc (.cells #[.slice (some ⟨w0.heap.size, 0, none⟩) 1 1, .slice (some ⟨w.heap.size, 0, none⟩) 32 32, .slice (some ⟨w.heap.size + 1, 0, none⟩) 32 32] 34)
  generalize World.alloc wc _ = w1 at *
  have hd : Below w1.heap.size w1 w1.drew := (Below.refl _ _).drew
  have hz1 : Zrow w1.drew (w.heap.size + 1 + 1) := by
    rw [show w.heap.size + 1 + 1 = wb.heap.size by omega]; exact ((hn.z.below hb1 hn.z.lt).below hb2 (by omega)).below hd (by omega)
  have hbe1 : Below w.heap.size w w1.drew := ((((hba.trans (hbb.mono (by omega))).trans (hn.b.mono (by omega))).trans (hb1.mono (by omega))).trans (hb2.mono (by omega))).drew
  have hds : w1.drew.heap.size = w1.heap.size := rfl
  have hp : PartsIn w1.drew w1.drew.heap.size (some ⟨w0.heap.size + 1, 0, none⟩) 3 [⟨some ⟨w0.heap.size, 0, none⟩, 1, 1, [1]⟩, ⟨some ⟨w.heap.size, 0, none⟩, 32, 32, a⟩, ⟨some ⟨w.heap.size + 1, 0, none⟩, 32, 32, b⟩] := by
    refine parts_block (ps := [⟨some ⟨w0.heap.size, 0, none⟩, 1, 1, [1]⟩, ⟨some ⟨w.heap.size, 0, none⟩, 32, 32, a⟩, ⟨some ⟨w.heap.size + 1, 0, none⟩, 32, 32, b⟩]) ?_ (by omega) ?_
    · rw [show w0.heap.size + 1 = wc.heap.size by omega]; exact hg2
    · intro q hq
      simp only [List.mem_cons, List.not_mem_nil, or_false] at hq
      rcases hq with rfl | rfl | rfl
      · exact bytes_block (L := [1]) (g := w0.heap.size) ((hr1.below hb2 (by omega)).below hd (by omega)) (fun x hx => by simp at hx; omega) (by show _ < _; omega) (by simp)
      · have := bytes_block (cap := 32) (B := w1.drew.heap.size) (g := w.heap.size) (((((hra.below hbb (by omega)).below hn.b (by omega)).below hb1 (by omega)).below hb2 (by omega)).below hd (by omega)) hA (by omega) (by rw [ha]; omega)
        rw [ha] at this; exact this
      · have := bytes_block (cap := 32) (B := w1.drew.heap.size) (g := w.heap.size + 1) ((((hrb.below hn.b (by omega)).below hb1 (by omega)).below hb2 (by omega)).below hd (by omega)) hB (by omega) (by rw [hb]; omega)
        rw [hb] at this; exact this
  have hc : cat [⟨some ⟨w0.heap.size, 0, none⟩, 1, 1, [1]⟩, ⟨some ⟨w.heap.size, 0, none⟩, 32, 32, a⟩, ⟨some ⟨w.heap.size + 1, 0, none⟩, 32, 32, b⟩] = 1 :: (a ++ b) := by simp [cat]
  refine (sum_any _ 3 3 _ w1.drew hp (hk.below hbe1 hk0) (by omega) (by rw [hc, List.length_cons, List.length_append, ha, hb]; omega) (by omega)).mono ?_
  rintro e w3 ⟨rfl, hb3⟩
  exact ⟨by rw [hc], hz1.below hb3 hz1.lt, hbe1.trans (hb3.mono hbe1.size)⟩
end Go.Proofs.YtmafefdchglpbaaDoor
