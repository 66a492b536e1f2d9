/-
  The walk of duplicates at one blob (condition: a digest of 32 bytes, at most 10^12 bytes of data).
-/
import Derived.Test.YtdjknefbaclleaaGreatDoorGi
import Derived.Test.YtdjknefbaclleaaGreatDoorGh
import Derived.Test.YtdjknefbaclleaaGreatDoorGd
import Derived.Lib.SlBytesConst
namespace Go.Proofs.YtdjknefbaclleaaGreatDoor
open Go.RowKit

theorem yieldsIf_buildG {P : Program} {ops : Array Oper} {S : World → Prop} {op : Oper} {a : Act} (hw : Region.wanted op (yielded ops a.tmps) = true) (t : TypeId) (parts : List (Nat × Operand)) (ho : op.op = .build t parts.toArray)
    (vs : List (Nat × Value)) (hv : (parts.map fun (i, x) => (i, a.eval x)) = vs) (v : Value) (hrun : ∀ w, S w → (Instr.build t vs.toArray).run P w = .ok v w) : YieldsIf P ops S op v a :=
  .inl ⟨hw, fun w hw' => by
    unfold execOp
    simp only [ho, Sem.run_bind, List.map_toArray, hv, hrun w hw', Result.andThen_ok, Sem.run_pure]⟩
theorem wp_slice_eqG {P : Program} {o : Oper} {a : Act} {w : World} {K : Act → World → Prop} {Q : Exit → Act → World → Prop} (t : TypeId) (k : Nat) (parts : List (Nat × Operand)) (ho : o.op = .buildSlice t k parts.toArray)
    (vs : List (Nat × Value)) (hv : (parts.map fun (i, x) => (i, a.eval x)) = vs) (v : Value) (w' : World) (hrun : (Instr.buildSlice t k vs.toArray).run P w = .ok v w') (h : K (a.put o.dst v) w') : o.wp P a w K Q := by
  unfold Oper.wp execOp
  simp only [ho, Sem.run_bind, List.map_toArray, hv, hrun, Result.andThen_ok]
  exact h
set_option maxRecDepth 100000 in
theorem wp_append_blG {o : Oper} {a : Act} {w : World} {K : Act → World → Prop} {Q : Exit → Act → World → Prop} (s x : Operand)
    (ho : o.op = .call { callee := .builtin .append, args := #[s, x], argTypes := #[24, 24] }) (base : Nat) (v : Value) (l : List Bl) (n : Nat) (hn : n = l.length) (hs : a.eval s = v) (hown : OwnB w base v l)
    (g : Nat) (y : Bl) (hx : a.eval x = .slice (some ⟨g, 0, none⟩) 1 1) (hy : BlB w g y) (hok : OkB y) (hlen : n ≤ 1000000) (hbase : base ≤ w.heap.size)
    (h : ∀ sp cap w', Hid (OwnB w' base (.slice sp (n + 1) cap) (l ++ [y])) → Hid (Below base w w') → Hid (w.grownBy w' v.ownBlock) → K (a.put o.dst (.slice sp (n + 1) cap)) w') : o.wp Tryz.prog a w K Q := by
  subst hn
  obtain ⟨i0, hi0, hz0, hz1, hz2⟩ := info_parts infoB3
  refine wp_append_own w s x _ ho base _ i0 _ 33 56 Tryz.underlying24 hi0 hz0 hz1 hz2 rfl (by decide) v l.length _ hs hown.1 ⟨g, 0, none⟩ 1 1 (blL y) hx (by rw [blL_length hok]) ?_ (blL_one y) (by unfold maxLen; omega) (by omega) hbase ?_
  · intro j u hj
    rw [Addr.add_mid]
    exact hy.all j u hj
  · intro v' w' h1 h2 _
    obtain ⟨sp, cap, rfl⟩ := own_shapeG h1
    refine h sp cap w' ⟨by rw [rowsB_snoc, List.length_append]; exact h1, fun z hz => ?_⟩ ((Below.refl base w).grown h2 hbase (own_baseG hown.1)) h2
    rcases List.mem_append.1 hz with hz | hz
    · exact hown.2 z hz
    · rw [List.mem_singleton.1 hz]; exact hok
theorem own_lessG {w : World} {b b' e size : Nat} {v : Value} {n : Nat} {xs : List Value} (h : w.ownsRow b e size v n xs) (hb : b' ≤ b) : w.ownsRow b' e size v n xs := by
  obtain ⟨hl, h1 | ⟨g, cap, cur, e, hbg, rest⟩⟩ := h
  · exact ⟨hl, .inl h1⟩
  · exact ⟨hl, .inr ⟨g, cap, cur, e, Nat.le_trans hb hbg, rest⟩⟩
theorem OwnB.at0 {w : World} {base : Nat} {sp : Option Addr} {cap : Nat} {x : Bl} (h : OwnB w base (.slice sp 1 cap) [x]) : ∃ g, sp = some ⟨g, 0, none⟩ ∧ g < w.heap.size ∧ 1 ≤ cap ∧ base ≤ g ∧ w.rangeAt g 0 (blL x) := by
  have h1 := h.1
  obtain ⟨_, ⟨e, e0⟩ | ⟨g, cap', cur, e, hbg, _⟩⟩ := h.1
  · simp at e0
  · injection e with e1 e2 e3
    subst e1
    obtain ⟨hg, hc, hr⟩ := own_rangeG (f := blL) h1 (fun y hy => blL_length (h.2 y hy)) (n := 1) rfl
    exact ⟨g, rfl, hg, hc, hbg, by simpa using hr 0 x rfl⟩
set_option maxRecDepth 100000 in
set_option maxHeartbeats 2000000 in
theorem duplicates1_any (sp : Option Addr) (cap : Nat) (x : Bl) (B : Nat) (w : World) (ho : OwnB w B (.slice sp 1 cap) [x]) (hdat : DatIn w w.heap.size x) (hn : x.n ≤ 1000000000000) :
    Calls Tryz.prog 18 #[.slice sp 1 cap] w fun e w' => ∃ (sp' : Option Addr) (cap' g : Nat), e = .returned (.slice sp' 1 cap') ∧ OwnB w' w.heap.size (.slice sp' 1 cap') [⟨x.d, some ⟨g, 0, none⟩, x.n, x.n, x.b⟩] ∧
      w'.ownsRow w.heap.size 5 1 (.slice (some ⟨g, 0, none⟩) x.n x.n) x.n (x.b.map (Value.int .u8)) ∧ Below w.heap.size w w' := by
  obtain ⟨i0, hi0, hz0, hz1, hz2⟩ := info_parts infoB3
  obtain ⟨ba, rfl, hba, hcap, _, hr⟩ := ho.at0
  have hok : OkB x := ho.2 x (by simp)
  have HOK := Lib.hid hok; have HR := Lib.hid hr; have HD := Lib.hid hdat
  have HI := Lib.hid (info_b hok)
  have HI2 : Hid ((Tryz.prog.info? 50).map (·.size) = some (blL x).toArray.size) := by show _ = _; rw [List.size_toArray]; exact HI.out
  have HS : Hid (33 = (blL x).toArray.size) := by show _ = _; rw [List.size_toArray, blL_length hok]
  have HID := Lib.hid (info_d hok)
  clear ho hr hdat hok
  go_enter Tryz.func18, Tryz.ntmps18
  go_wp2_with (refine wpList_make_own w rfl _ _ 24 rfl w.heap.size 50 i0 _ 33 Tryz.underlying24 hi0 hz0 hz1 .i64 .i64 (1 : Int) 1 rfl rfl rfl (by rw [hz2]; omega) (by unfold maxLen; omega) (Nat.le_refl _) ?_
               intro w1 hown1 hgr1
               have hb1 : Below w.heap.size w w1 := (Below.refl _ _).grown hgr1 (Nat.le_refl _) (by intro k hk; cases hk)
               have hs1 : w.heap.size < w1.heap.size := (hown1.lt w.heap.size rfl).2; have HLT1 : Hid (w.heap.size < w1.heap.size) := hs1; have HB1 := Lib.hid hb1; have HO1 := Lib.hid hown1; clear hown1 hgr1 hb1 hs1)
  go_loopw [3, 11] (fun v i wr => Hid (Below w.heap.size w wr) ∧ Hid (w.heap.size < wr.heap.size) ∧ ((i = .int .i64 0 ∧ v = .slice (some ⟨w.heap.size, 0, none⟩) 0 1 ∧ Hid (OwnB wr w.heap.size v [])) ∨ (i = .int .i64 1 ∧ ∃ (sp' : Option Addr) (cap' g : Nat), v = .slice sp' 1 cap' ∧ Hid (OwnB wr w.heap.size v [⟨x.d, some ⟨g, 0, none⟩, x.n, x.n, x.b⟩] ∧ wr.ownsRow w.heap.size 5 1 (.slice (some ⟨g, 0, none⟩) x.n x.n) x.n (x.b.map (Value.int .u8)))))) (fun _ i _ => 1 - (intOf i).toNat)
  case atStart => exact ⟨HB1, HLT1, .inl ⟨rfl, rfl, ⟨HO1.out, by simp⟩⟩⟩
  case round =>
    obtain ⟨hbe, HLT, ⟨rfl, rfl, hown⟩ | ⟨rfl, sp', cap', g, rfl, hown⟩⟩ := hrel
    · have hbs := hbe.out.size
      have HRW := Lib.hid (range_belowG HR.out hbe.out hba)
      clear hcap
      go_wp2_with (first
        | (refine wpList_load_mid rfl 50 _ rfl ba (0 + 0 * 33) rfl _ _ HRW.out Tryz.underlying50 rfl HI.out ?_)
        | (refine wpList_load_mid rfl 50 _ rfl ba 0 rfl _ _ HRW.out Tryz.underlying50 rfl HI.out ?_)
        | (refine wpList_store_row rfl 50 _ _ rfl wr.heap.size _ rfl rfl 50 _ (heap_alloc_new wr _) (by simpa using HI2.out) (by simpa using HS.out) (Array.all_eq_true_iff_forall_mem.2 (by simpa using blL_one x)) ?_; rw [setRow_new]; generalize hw2 : World.alloc wr _ = w2; have he2 : BlB w2 wr.heap.size x := (by rw [← hw2]; exact heap_alloc_new _ _); have hb2 : Below wr.heap.size wr w2 := (by rw [← hw2]; exact (Below.refl _ _).alloc (Nat.le_refl _) _); have hz2 : wr.heap.size < w2.heap.size := (by rw [← hw2]; simp); have hp2 := he2.s HOK.out; have HE2 := Lib.hid he2; have HW2 := Lib.hid hb2; have HO2 := Lib.hid (hown.out.below hb2); clear hw2 he2 hb2))
      have HW2D : Hid (Below w.heap.size w w2.drew) := (hbe.out.trans (HW2.out.mono hbs)).drew
      have hlt0 : w.heap.size < wr.heap.size := HLT.out
      refine wp_region_held_drew (S := fun w' => BlB w' wr.heap.size x) (by kernel_rfl) HE2.out (fun hHeld => ?_)
      refine wpAnyH_take (i := 0) (oi := _) (v := ?v0n1) rfl (by kernel_rfl) (by kernel_rfl) (by kernel_rfl) (fun _ _ _ h => h) (Or.inl ⟨by rfl, ?hy0n1⟩) (by assumption) ?rest0n1
      case hy0n1 =>
        intro w' hSw
        go_simp
        try with_reducible rfl
      try simp only [Act.put, List.getElem_toArray, List.getElem_cons_succ, List.getElem_cons_zero, List.setIfInBounds_toArray, List.set_cons_zero, List.set_cons_succ]
      refine wpAnyH_take (i := 1) (oi := _) (v := ?v1n2) rfl (by kernel_rfl) (by kernel_rfl) (by kernel_rfl) (fun _ _ _ h => h) (Or.inl ⟨by rfl, ?hy1n2⟩) (by assumption) ?rest1n2
      case hy1n2 =>
        intro w' hSw
        go_simp
        try with_reducible rfl
      try simp only [Act.put, List.getElem_toArray, List.getElem_cons_succ, List.getElem_cons_zero, List.setIfInBounds_toArray, List.set_cons_zero, List.set_cons_succ]
      refine' wpAnyH_take (i := 2) (oi := _) (v := _) rfl (by kernel_rfl) (by kernel_rfl) (by kernel_rfl) (fun _ _ _ h => h) (yieldsIf_load_mid (by rfl) _ _ rfl _ _ rfl _ _ ?hS2n3 Tryz.underlying29 rfl HID.out) (by assumption) ?rest2n3
      case hS2n3 =>
        intro w' hSw
        exact hSw.d
      try simp only [Act.put, List.getElem_toArray, List.getElem_cons_succ, List.getElem_cons_zero, List.setIfInBounds_toArray, List.set_cons_zero, List.set_cons_succ]
      refine wpAnyH_take (i := 3) (oi := _) (v := ?v3n4) rfl (by kernel_rfl) (by kernel_rfl) (by kernel_rfl) (fun _ _ _ h => h) (Or.inl ⟨by rfl, ?hy3n4⟩) (by assumption) ?rest3n4
      case hy3n4 =>
        intro w' hSw
        go_simp
        try with_reducible rfl
      try simp only [Act.put, List.getElem_toArray, List.getElem_cons_succ, List.getElem_cons_zero, List.setIfInBounds_toArray, List.set_cons_zero, List.set_cons_succ]
      refine wpAnyH_take (i := 4) (oi := _) (v := ?v4n5) rfl (by kernel_rfl) (by kernel_rfl) (by kernel_rfl) (fun _ _ _ h => h) (Or.inl ⟨by rfl, ?hy4n5⟩) (by assumption) ?rest4n5
      case hy4n5 =>
        intro w' hSw
        have h1 := BlB.s hSw HOK.out
        go_simp
        try with_reducible rfl
      try simp only [Act.put, List.getElem_toArray, List.getElem_cons_succ, List.getElem_cons_zero, List.setIfInBounds_toArray, List.set_cons_zero, List.set_cons_succ]
      refine wpAnyH_ready (rs := [5]) (by kernel_rfl) (by simp) (AllReadyH.cons (o := _) rfl (fun K hK => ?_) AllReadyH.nil)
      go_simp
      with_reducible refine (duplicate_any x.sp x.n x.cap x.b _ (HD.out.up HW2D.out (Nat.le_refl _)).src hn).mono ?_
      rintro e w3 ⟨g3, rfl, ho3, hb3⟩
      have hs3 : w2.heap.size ≤ w3.heap.size := hb3.size
      have HK3 := Lib.hid (BlB.below (w := w2.drew) HE2.out hb3 hz2)
      have HR3 := Lib.hid ho3
      have HO3 := Lib.hid (OwnB.below (w := w2.drew) HO2.out hb3)
      have HB3 := Lib.hid (HW2D.out.trans (hb3.mono HW2D.out.size))
      have HYOK : Hid (OkB (⟨x.d, some ⟨g3, 0, none⟩, x.n, x.n, x.b⟩ : Bl)) := HOK.out
      clear ho3 hb3
      go_wp2_with fail
      refine hK.out _ _ HK3.out (fun hHeld => ?_)
      clear hK K
      try simp only [Act.put, List.getElem_toArray, List.getElem_cons_succ, List.getElem_cons_zero, List.setIfInBounds_toArray, List.set_cons_zero, List.set_cons_succ]
      refine wpAnyH_take (i := 6) (oi := _) (v := _) rfl (by kernel_rfl) (by kernel_rfl) (by kernel_rfl) (fun _ _ _ h => h) (yieldsIf_buildG (by rfl) 50 [(0, .tmp 17), (1, .tmp 20)] rfl [(0, .agg (x.d.map (Value.int .u8)).toArray), (1, .slice (some ⟨g3, 0, none⟩) x.n x.n)] rfl _ (fun w' _ => buildB ⟨x.d, some ⟨g3, 0, none⟩, x.n, x.n, x.b⟩ HYOK.out w')) (by assumption) ?rest6n6
      try simp only [Act.put, List.getElem_toArray, List.getElem_cons_succ, List.getElem_cons_zero, List.setIfInBounds_toArray, List.set_cons_zero, List.set_cons_succ]
      refine wpAnyH_ready (rs := [7]) (by kernel_rfl) (by simp) (AllReadyH.cons (o := _) rfl (fun K hK => ?_) AllReadyH.nil)
      rw [if_pos (by rfl)]
      refine wp_slice_eqG 24 1 [(0, .tmp 21)] rfl [(0, .agg (blL ⟨x.d, some ⟨g3, 0, none⟩, x.n, x.n, x.b⟩).toArray)] rfl _ _ (sliceB _ ⟨x.d, some ⟨g3, 0, none⟩, x.n, x.n, x.b⟩ HYOK.out) ?_
      generalize hw4 : World.alloc w3 _ = w4
      have hz4 : BlB w4 w3.heap.size ⟨x.d, some ⟨g3, 0, none⟩, x.n, x.n, x.b⟩ := by rw [← hw4]; exact heap_alloc_new w3 _
      have hb4 : Below w3.heap.size w3 w4 := by rw [← hw4]; exact (Below.refl _ w3).alloc (Nat.le_refl _) _
      have HZ4 := Lib.hid hz4
      have HB4 := Lib.hid (HB3.out.trans (hb4.mono (Nat.le_trans HW2D.out.size hs3)))
      have HO4 := Lib.hid (HO3.out.below hb4)
      have HR4 := Lib.hid (own_belowG HR3.out hb4)
      have HK4 := Lib.hid (BlB.below HK3.out hb4 (by omega))
      have hs4 := hb4.size
      clear hw4 hz4 hb4
      refine hK.out _ _ HK4.out (fun hHeld => ?_)
      clear hK K
      try simp only [Act.put, List.getElem_toArray, List.getElem_cons_succ, List.getElem_cons_zero, List.setIfInBounds_toArray, List.set_cons_zero, List.set_cons_succ]
      refine wpAnyH_ready (rs := [8]) (by kernel_rfl) (by simp) (AllReadyH.cons (o := _) rfl (fun K hK => ?_) AllReadyH.nil)
      rw [if_pos (by rfl)]
      refine wp_append_blG (.tmp 15) (.tmp 22) rfl w.heap.size _ [] 0 rfl rfl HO4.out w3.heap.size ⟨x.d, some ⟨g3, 0, none⟩, x.n, x.n, x.b⟩ rfl HZ4.out HYOK.out (by omega) (by omega) ?_
      intro sp5 cap5 w5 HO5 HB5 HG5
      have HB6 := Lib.hid (HB4.out.trans HB5.out)
      have HK5 : Hid (BlB w5 wr.heap.size x) := (HG5.out.block wr.heap.size (by omega) (fun e => by have e2 : some wr.heap.size = some w.heap.size := e; injection e2 with e2; omega)).trans HK4.out
      refine hK.out _ _ HK5.out (fun hHeld => ?_)
      clear hK K
      try simp only [Act.put, List.getElem_toArray, List.getElem_cons_succ, List.getElem_cons_zero, List.setIfInBounds_toArray, List.set_cons_zero, List.set_cons_succ]
      refine wpAnyH_take (i := 9) (oi := _) (v := ?v9n7) rfl (by kernel_rfl) (by kernel_rfl) (by kernel_rfl) (fun _ _ _ h => h) (Or.inl ⟨by rfl, ?hy9n7⟩) (by assumption) ?rest9n7
      case hy9n7 =>
        intro w' hSw
        go_simp
        try with_reducible rfl
      try simp only [Act.put, List.getElem_toArray, List.getElem_cons_succ, List.getElem_cons_zero, List.setIfInBounds_toArray, List.set_cons_zero, List.set_cons_succ]
      refine wpAnyH_done (by kernel_rfl) ?_ _
      clear hHeld
      have HLT6 : Hid (w.heap.size < w5.heap.size) := by show _ < _; have := HG5.out.size; omega
      go_wp2_with fail
      go_roundw
      case rel =>
        refine ⟨HB6, HLT6, .inr ⟨by go_num, sp5, cap5, g3, rfl, ⟨HO5.out, own_lessG (HR4.out.kept HG5.out (.inr ?_)) (by have := HW2D.out.size; exact this)⟩⟩⟩
        intro e
        have h1 := own_baseG HR4.out g3 rfl
        have h2 : some g3 = some w.heap.size := e
        injection h2 with h2
        have h3 : w2.heap.size ≤ g3 := h1
        omega
      case measure => simp [intOf]
    · have hd : decide ((1 : Int) < 1) = false := rfl
      go_wp2_with fail
      go_ret
      exact ⟨sp', cap', g, rfl, hown.out.1, hown.out.2, hbe.out⟩
end Go.Proofs.YtdjknefbaclleaaGreatDoor

namespace Go.Proofs.YtdjknefbaclleaaGreatDoor
open Go.RowKit

theorem results_mixG {P : Program} {fn : Func} {a p c : Tmp} {ty : TypeId} (h : fn.results = #[.tmp a, .cell p ty, .tmp c]) (tmps : Array Value) (w : World) (g : Nat) (t : TypeId) (cs : Array Value) (fr : Nat × Nat) (d : TypeDesc)
    (hp : tmps.getD p undef = .pointer (some ⟨g, 0, none⟩)) (hg : w.heap[g]? = some (.cells cs t fr))
    (hu : P.underlying ty = some d) (hd : (match d with | .struct _ | .array _ _ => true | _ => false) = true) (hi : (P.info? ty).map (·.size) = some cs.size) :
    (results fn tmps).run P w = .ok (.tuple #[tmps.getD a undef, .agg cs, tmps.getD c undef]) w := by
  have hp' : tmps[p]?.getD undef = .pointer (some ⟨g, 0, none⟩) := by simpa using hp
  simp [results, h, hp', asAddr, run_loadVar_row w g t ty cs fr d hg hu hd hi]
theorem grown_setRowG (w : World) (g : Nat) (cs : Array Value) : w.grownBy (w.setRow g cs) (some g) :=
  ⟨rfl, rfl, rfl, by simp [World.setRow], fun k _ hne => setRow_other w g k cs (fun e => hne (by rw [e]))⟩
theorem range_grownG {w w' : World} {b o : Nat} {cs : List Value} {row : Nat} (h : w.rangeAt b o cs) (hg : w.grownBy w' (some row)) (hlt : b < w.heap.size) (hne : b ≠ row) : w'.rangeAt b o cs := fun j v hv =>
  (World.cell?_of_block (a := ⟨b, o + j, none⟩) (hg.block b hlt (fun e => hne (Option.some.inj e)))).trans (h j v hv)
theorem own_neG {w : World} {base e size : Nat} {v : Value} {n : Nat} {xs : List Value} {row : Nat} (h : w.ownsRow base e size v n xs) (hlt : row < base) : v.ownBlock = none ∨ v.ownBlock ≠ some row := by
  refine .inr fun e => ?_
  have := own_baseG h row e
  omega
theorem shb_ok (b : List Int) : D32 (shb b) := ⟨shb_len b, fun x hx => dbytes_byt _ x hx⟩
set_option maxRecDepth 100000 in
set_option maxHeartbeats 2000000 in
theorem put0_any (sp : Option Addr) (n cap : Nat) (b : List Int) (w : World) (hs : Src w w.heap.size sp n cap b) (hnil : sp = none → cap = 0) (hn : n ≤ 262144) (hk : KayIn w) (hk0 : 1 < w.heap.size) :
    Calls Tryz.prog 27 #[.slice none 0 0, .slice sp n cap] w fun e w' => ∃ (sp' : Option Addr) (cap' g : Nat), e = .returned (.tuple #[.slice sp' 1 cap', .agg (dg b), .int .i64 0]) ∧ OwnB w' w.heap.size (.slice sp' 1 cap') [⟨shb b, some ⟨g, 0, none⟩, n, n, b⟩] ∧
      w'.ownsRow w.heap.size 5 1 (.slice (some ⟨g, 0, none⟩) n n) n (b.map (Value.int .u8)) ∧ Below w.heap.size w w' := by
  have HS := Lib.hid hs; have HK := Lib.hid hk; have HNIL := Lib.hid hnil
  have HX : Hid (OkB (⟨shb b, sp, n, cap, b⟩ : Bl)) := shb_ok b
  have HN := Lib.hid (NewZ.new w)
  clear hs hk hnil
  have hd : decide ((n : Int) > 262144) = false := by simp; omega
  go_enter Tryz.func27, Tryz.ntmps27
  go_wp2_with fail
  generalize hw0 : World.alloc w _ = w0
  have hz : NewZ w w0 := by rw [← hw0]; exact HN.out
  clear hw0 HN
  have HZ := Lib.hid hz; clear hz
  refine (valid0_any w0).mono ?_
  rintro e w1 ⟨rfl, hb1⟩
  have HZ1 := Lib.hid (HZ.out.z.below hb1 HZ.out.z.lt)
  have HB1 := Lib.hid (HZ.out.b.trans (hb1.mono HZ.out.b.size)); 
  have hs1 : w.heap.size < w1.heap.size := Nat.lt_of_lt_of_le HZ.out.z.lt hb1.size
  clear hb1
  have HSUM := Lib.hid (Sum_any sp n cap b w1 ((HS.out.below HB1.out (Nat.le_refl _)).more HB1.out.size) (HK.out.below HB1.out hk0) (by have := HB1.out.size; omega) (by omega))
  go_wp2_with fail
  refine HSUM.out.mono ?_
  rintro e w2 ⟨rfl, hb2⟩
  have HZ2 := Lib.hid (HZ1.out.below hb2 HZ1.out.lt)
  have HB2 := Lib.hid (HB1.out.trans (hb2.mono HB1.out.size))
  have hs2 : w.heap.size < w2.heap.size := Nat.lt_of_lt_of_le hs1 hb2.size
  clear hb2
  have HD := Lib.hid (heap_alloc_new w2 (.cells (Array.replicate 32 (Value.int .u8 0)) 29))
  go_wp2_with (first
    | (refine wpList_store_row rfl 29 _ _ rfl w2.heap.size _ rfl rfl 29 _ HD.out (dg_info _) (by rw [dg_size]; rfl) (dg_one _) ?_; rw [setRow_new]; generalize hw3 : World.alloc w2 _ = w3; have hr3 : w3.rangeAt w2.heap.size 0 ((shb b).map (Value.int .u8)) := (by rw [← hw3]; exact range_row (pre := []) (post := []) (heap_alloc_new w2 _) (by simp; rfl) rfl); have hb3 : Below w2.heap.size w2 w3 := (by rw [← hw3]; exact (Below.refl _ _).alloc (Nat.le_refl _) _); have hs3 : w2.heap.size < w3.heap.size := (by rw [← hw3]; simp); have HR3 := Lib.hid hr3; have HZ3 := Lib.hid (HZ2.out.below hb3 HZ2.out.lt); have HB3 := Lib.hid (HB2.out.trans (hb3.mono HB2.out.size)); have HI3 := Lib.hid (info_d (shb_ok b)); clear hw3 hr3 hb3)
    | (refine wpList_load_mid rfl 29 _ rfl w2.heap.size 0 rfl _ _ HR3.out Tryz.underlying29 rfl HI3.out ?_)
    | (refine wpList_build_eqG rfl 50 [(0, .tmp 20), (1, .tmp 21)] rfl [(0, .agg ((shb b).map (Value.int .u8)).toArray), (1, .slice sp n cap)] rfl _ (buildB ⟨shb b, sp, n, cap, b⟩ HX.out _) ?_)
    | (refine wpList_slice_eqG rfl 24 1 [(0, .tmp 22)] rfl [(0, .agg (blL ⟨shb b, sp, n, cap, b⟩).toArray)] rfl _ _ (sliceB _ ⟨shb b, sp, n, cap, b⟩ HX.out) ?_; generalize hw4 : World.alloc w3 _ = w4; have hz4 : BlB w4 w3.heap.size ⟨shb b, sp, n, cap, b⟩ := (by rw [← hw4]; exact heap_alloc_new w3 _); have hb4 : Below w3.heap.size w3 w4 := (by rw [← hw4]; exact (Below.refl _ _).alloc (Nat.le_refl _) _); have hs4 : w3.heap.size < w4.heap.size := (by rw [← hw4]; simp); have HR4 := Lib.hid (range_belowG HR3.out hb4 hs3); have HE4 := Lib.hid hz4; have HZ4 := Lib.hid (HZ3.out.below hb4 HZ3.out.lt); have HB4 := Lib.hid (HB3.out.trans (hb4.mono HB3.out.size)); clear hw4 hz4 hb4))
  have hdat : ∀ W, Below w.heap.size w W → DatIn W W.heap.size ⟨shb b, sp, n, cap, b⟩ := fun W hb => ⟨(HS.out.below hb (Nat.le_refl _)).more hb.size, HNIL.out⟩
  have HDAT := Lib.hid hdat; clear hdat
  have hbl : BlsIn w4 w4.heap.size (some ⟨w3.heap.size, 0, none⟩) 1 1 [⟨shb b, sp, n, cap, b⟩] := ⟨rfl, fun x hx => by rw [List.mem_singleton.1 hx]; exact HX.out, fun x hx => by rw [List.mem_singleton.1 hx]; exact HDAT.out w4 HB4.out, fun _ => ⟨w3.heap.size, 0, rfl, hs4, Nat.le_refl _, fun i x hi => by
    have hi0 : i = 0 := by have := (List.getElem?_eq_some_iff.1 hi).1; simp at this; omega
    subst hi0
    have e : ⟨shb b, sp, n, cap, b⟩ = x := by simpa using hi
    subst e
    exact HE4.out.all⟩⟩
  refine (union1_any w3.heap.size ⟨shb b, sp, n, cap, b⟩ w4 hbl).mono ?_
  rintro e w5 ⟨sp5, cap5, rfl, ho5, hb5⟩
  have HO5 := Lib.hid ho5
  have HR5 := Lib.hid (range_belowG HR4.out hb5 (by omega))
  have HZ5 := Lib.hid (HZ4.out.below hb5 HZ4.out.lt)
  have HB5 := Lib.hid (HB4.out.trans (hb5.mono HB4.out.size))
  have hs5 := hb5.size
  clear ho5 hb5 hbl
  go_wp2_with fail
  have HD5 : Hid (Below w.heap.size w w5.drew) := HB5.out.drew
  have hod : OwnB w5.drew w4.heap.size (.slice sp5 1 cap5) [⟨shb b, sp, n, cap, b⟩] := HO5.out
  have HCON := Lib.hid (duplicates1_any sp5 cap5 ⟨shb b, sp, n, cap, b⟩ w4.heap.size w5.drew hod (HDAT.out _ HD5.out) (show n ≤ _ by omega))
  clear hod
  refine wp_region_held_drew (S := fun w' => w'.rangeAt w2.heap.size 0 ((shb b).map (Value.int .u8))) (by kernel_rfl) HR5.out (fun hHeld => ?_)
  refine wpAnyH_take (i := 0) (oi := _) (v := ?v0n1) rfl (by kernel_rfl) (by kernel_rfl) (by kernel_rfl) (fun _ _ _ h => h) (Or.inl ⟨by rfl, ?hy0n1⟩) (by assumption) ?rest0n1
  case hy0n1 =>
    intro w' hSw
    go_simp
    try with_reducible rfl
  try simp only [Act.put, List.getElem_toArray, List.getElem_cons_succ, List.getElem_cons_zero, List.setIfInBounds_toArray, List.set_cons_zero, List.set_cons_succ]
  refine' wpAnyH_take (i := 2) (oi := _) (v := _) rfl (by kernel_rfl) (by kernel_rfl) (by kernel_rfl) (fun _ _ _ h => h) (yieldsIf_load_mid (by rfl) _ _ rfl _ _ rfl _ _ ?hS2n2 Tryz.underlying29 rfl HI3.out) (by assumption) ?rest2n2
  case hS2n2 =>
    intro w' hSw
    exact hSw
  try simp only [Act.put, List.getElem_toArray, List.getElem_cons_succ, List.getElem_cons_zero, List.setIfInBounds_toArray, List.set_cons_zero, List.set_cons_succ]
  refine wpAnyH_ready (rs := [1]) (by kernel_rfl) (by simp) (AllReadyH.cons (o := _) rfl (fun K hK => ?_) AllReadyH.nil)
  go_simp
  with_reducible refine (HCON.out).mono ?_
  rintro e w6 ⟨sp6, cap6, g6, rfl, ho6, hr6, hb6⟩
  have HR6 := Lib.hid (range_belowG (w := w5.drew) HR5.out hb6 (show w2.heap.size < w5.heap.size by omega))
  have HZ6 := Lib.hid (Zrow.below (w := w5.drew) HZ5.out hb6 (show w.heap.size < w5.heap.size by omega))
  have HB6 := Lib.hid (HD5.out.trans (hb6.mono HD5.out.size))
  have HO6 := Lib.hid ho6; have HRR6 := Lib.hid hr6
  have hs6 : w5.heap.size ≤ w6.heap.size := hb6.size
  clear ho6 hr6 hb6
  go_wp2_with fail
  refine hK.out _ _ HR6.out (fun hHeld => ?_)
  clear hK K
  try simp only [Act.put, List.getElem_toArray, List.getElem_cons_succ, List.getElem_cons_zero, List.setIfInBounds_toArray, List.set_cons_zero, List.set_cons_succ]
  refine wpAnyH_take (i := 3) (oi := _) (v := ?v3n3) rfl (by kernel_rfl) (by kernel_rfl) (by kernel_rfl) (fun _ _ _ h => h) (Or.inl ⟨by rfl, ?hy3n3⟩) (by assumption) ?rest3n3
  case hy3n3 =>
    intro w' hSw
    go_simp
    try with_reducible rfl
  try simp only [Act.put, List.getElem_toArray, List.getElem_cons_succ, List.getElem_cons_zero, List.setIfInBounds_toArray, List.set_cons_zero, List.set_cons_succ]
  refine wpAnyH_ready (rs := [4]) (by kernel_rfl) (by simp) (AllReadyH.cons (o := _) rfl (fun K hK => ?_) AllReadyH.nil)
  rw [if_pos (by rfl)]
  refine wp_store_row 29 _ _ rfl w.heap.size _ rfl rfl 29 _ HZ6.out (by simpa using HI3.out) (by simp [shb_len]) (oneCell_map _ _) ?_
  have hg7 : (w6.setRow w.heap.size ((shb b).map (Value.int .u8)).toArray).heap[w.heap.size]? = some (.cells ((shb b).map (Value.int .u8)).toArray 29 (0, 0)) := setRow_heap _ _ _ _ _ _ HZ6.out
  have hgr7 := grown_setRowG w6 w.heap.size ((shb b).map (Value.int .u8)).toArray
  have hb7 : Below w.heap.size w (w6.setRow w.heap.size ((shb b).map (Value.int .u8)).toArray) := below_setRow HB6.out (Nat.le_refl _) _
  have hr7 : (w6.setRow w.heap.size ((shb b).map (Value.int .u8)).toArray).rangeAt w2.heap.size 0 ((shb b).map (Value.int .u8)) := range_grownG HR6.out hgr7 (by omega) (by omega)
  generalize hw7 : w6.setRow w.heap.size _ = w7 at hg7 hgr7 hb7 hr7
  have HG7 := Lib.hid hg7; have HGR7 := Lib.hid hgr7; have HB7 := Lib.hid hb7; have HR7 := Lib.hid hr7
  clear hw7 hg7 hgr7 hb7 hr7
  refine hK.out _ _ HR7.out (fun hHeld => ?_)
  clear hK K
  try simp only [Act.put, List.getElem_toArray, List.getElem_cons_succ, List.getElem_cons_zero, List.setIfInBounds_toArray, List.set_cons_zero, List.set_cons_succ]
  refine wpAnyH_take (i := 5) (oi := _) (v := ?v5n4) rfl (by kernel_rfl) (by kernel_rfl) (by kernel_rfl) (fun _ _ _ h => h) (Or.inl ⟨by rfl, ?hy5n4⟩) (by assumption) ?rest5n4
  case hy5n4 =>
    intro w' hSw
    go_simp
    try with_reducible rfl
  try simp only [Act.put, List.getElem_toArray, List.getElem_cons_succ, List.getElem_cons_zero, List.setIfInBounds_toArray, List.set_cons_zero, List.set_cons_succ]
  refine wpAnyH_done (by kernel_rfl) ?_ _
  clear hHeld
  go_wp2_with fail
  refine bodyPost_ret (results_mixG (P := Tryz.prog) rfl _ _ w.heap.size 29 _ (0, 0) _ rfl HG7.out Tryz.underlying29 rfl (by simpa using HI3.out)) rfl ?_
  refine ⟨sp6, cap6, g6, rfl, ⟨own_lessG (HO6.out.1.kept HGR7.out (own_neG HO6.out.1 (show w.heap.size < w5.heap.size by omega))) (show w.heap.size ≤ w5.heap.size by omega), HO6.out.2⟩, own_lessG (HRR6.out.kept HGR7.out (own_neG HRR6.out (show w.heap.size < w5.heap.size by omega))) (show w.heap.size ≤ w5.heap.size by omega), HB7.out⟩
end Go.Proofs.YtdjknefbaclleaaGreatDoor

namespace Go.Proofs.YtdjknefbaclleaaGreatDoor
open Go.RowKit

set_option maxRecDepth 100000 in
set_option maxHeartbeats 1000000 in
theorem get_any (sp : Option Addr) (n cap : Nat) (l : List Bl) (d : List Int) (w : World) (hl : BlsIn w w.heap.size sp n cap l) (hn : n ≤ 1000000) (hb : ∀ x ∈ l, x.n ≤ 1000000000000) (hd : D32 d) :
    Calls Tryz.prog 28 #[.slice sp n cap, .agg (dv d)] w fun e w' =>
      ((e = .returned (.tuple #[.slice none 0 0, .bool false]) ∧ ∀ x ∈ l, x.d ≠ d) ∨ ∃ (k : Nat) (x : Bl) (g : Nat), e = .returned (.tuple #[.slice (some ⟨g, 0, none⟩) x.n x.n, .bool true]) ∧ l[k]? = some x ∧ x.d = d ∧ (∀ y ∈ l.take k, y.d ≠ d) ∧
        w'.ownsRow w.heap.size 5 1 (.slice (some ⟨g, 0, none⟩) x.n x.n) x.n (x.b.map (Value.int .u8))) ∧ Below w.heap.size w w' := by
  have HB := Lib.hid ((Below.refl w.heap.size w).alloc (Nat.le_refl _) (.cells (dv d) 29))
  have hs : (w.alloc (.cells (dv d) 29)).heap.size = w.heap.size + 1 := by simp
  have hr : (w.alloc (.cells (dv d) 29)).rangeAt w.heap.size 0 (d.map (Value.int .u8)) := range_row (pre := []) (post := []) (heap_alloc_new w _) (by simp) rfl
  have HR := Lib.hid hr; have HI := Lib.hid (info_d hd)
  have HF := Lib.hid (find_any sp n cap l d (w.alloc (.cells (dv d) 29)) ((hl.below HB.out (Nat.le_refl _)).below (Below.refl (w.alloc (.cells (dv d) 29)).heap.size _) (by omega)) hn hd)
  have HL := Lib.hid hl; have HBD := Lib.hid hb
  clear hl hs hr hd hb
  go_enter Tryz.func28, Tryz.ntmps28
  go_wp2_with (refine wpList_load_mid rfl 29 _ rfl w.heap.size 0 rfl _ _ HR.out Tryz.underlying29 rfl HI.out ?_)
  refine HF.out.mono ?_
  rintro e w1 ⟨hcase, hb1⟩
  have HB1 := Lib.hid (HB.out.trans (hb1.mono HB.out.size)); clear hb1
  rcases hcase with ⟨rfl, hno⟩ | ⟨k, x, rfl, hx, hxd, hbef⟩
  · have HNO := Lib.hid hno; clear hno
    go_wp2_with fail
    go_ret2
    exact ⟨.inl ⟨rfl, HNO.out⟩, HB1.out⟩
  · have hxm := List.mem_of_getElem? hx
    have HDU := Lib.hid (duplicate_any x.sp x.n x.cap x.b w1 (((HL.out.dat x hxm).up HB1.out (Nat.le_refl _)).src) (HBD.out x hxm))
    have HX := Lib.hid hx; have HXD := Lib.hid hxd; have HBF := Lib.hid hbef
    clear hx hxd hbef hxm
    go_wp2_with fail
    refine HDU.out.mono ?_
    rintro e w2 ⟨g, rfl, ho, hb2⟩
    have HO := Lib.hid (own_lessG ho HB1.out.size); have HB2 := Lib.hid (HB1.out.trans (hb2.mono HB1.out.size)); clear ho hb2
    go_wp2_with fail
    go_ret2
    exact ⟨.inr ⟨k, x, g, rfl, HX.out, HXD.out, HBF.out, HO.out⟩, HB2.out⟩
def abc : List Int := [97, 98, 99]
theorem abc_byt : Byt abc := fun x hx => by
  simp [abc] at hx
  rcases hx with rfl | rfl | rfl <;> omega
set_option maxRecDepth 100000 in
theorem abc_conv (w : World) (g base : Nat) (h : w.ownsRow base 5 1 (.slice (some ⟨g, 0, none⟩) 3 3) 3 (abc.map (Value.int .u8))) :
    (convert 42 9 (.slice (some ⟨g, 0, none⟩) 3 3)).run Tryz.prog w = .ok (.string ⟨#[97, 98, 99]⟩) w := by
  obtain ⟨_, ⟨h1, _⟩ | ⟨g', cap', cur, h1, _, hg, hle, _, hsz, htk⟩⟩ := h
  · cases h1
  · injection h1 with h1 h2 h3
    injection h1 with h1; injection h1 with h1
    subst h1; subst h3
    refine run_conv_src (B := w.heap.size) (cap := 3) (l := [97, 98, 99]) ⟨rfl, fun _ => ⟨g, 0, rfl, (Array.getElem?_eq_some_iff.1 hg).1, Nat.le_refl _, fun j hj => ?_⟩⟩
    rw [Nat.zero_add, cell_of_row w g j cur _ _ hg]
    have h4 : (cur.toList.take (3 * 1))[j]? = (abc.map (Value.int .u8))[j]? := by rw [htk]
    have hj3 : j < 3 := hj
    rw [List.getElem?_take, if_pos (by omega)] at h4
    have h5 : cur[j]? = (abc.map (Value.int .u8))[j]? := by simpa using h4
    rw [h5]
    have : j = 0 ∨ j = 1 ∨ j = 2 := by omega
    rcases this with rfl | rfl | rfl <;> rfl
set_option maxRecDepth 100000 in
set_option maxHeartbeats 1000000 in
theorem awake5_any (w : World) (hk : KayIn w) (hk0 : 1 < w.heap.size) : Calls Tryz.prog 9 #[] w fun e w' => e = .returned (.bool true) ∧ Below w.heap.size w w' := by
  have HK := Lib.hid hk; clear hk
  have hcs := Lib.run_convert_bytes_const (P := Tryz.prog) w 42 5 #[.int .u8 97, .int .u8 98, .int .u8 99] 3 3 Tryz.underlying42 Tryz.underlying5
  have HRB := Lib.hid (fun w : World => (show (Instr.buildSlice 42 3 #[(0, .int .u8 97), (1, .int .u8 98), (2, .int .u8 99)]).run Tryz.prog w = .ok (.slice (some ⟨w.heap.size, 0, none⟩) 3 3) (w.alloc (.cells #[.int .u8 97, .int .u8 98, .int .u8 99] 5)) by kernel_rfl))
  go_enter Tryz.func9, Tryz.ntmps9
  go_wp2_with (refine wpList_slice_eqG rfl 42 3 [(0, .const (.int .u8 97)), (1, .const (.int .u8 98)), (2, .const (.int .u8 99))] rfl [(0, .int .u8 97), (1, .int .u8 98), (2, .int .u8 99)] rfl _ _ (HRB.out _) ?_)
  generalize hw0 : World.alloc w _ = w0
  have hg0 : w0.heap[w.heap.size]? = some (.cells #[.int .u8 97, .int .u8 98, .int .u8 99] 5 (3, 4)) := by rw [← hw0]; exact heap_alloc_new w _
  have hb0 : Below w.heap.size w w0 := by rw [← hw0]; exact (Below.refl _ _).alloc (Nat.le_refl _) _
  have HG0 := Lib.hid hg0; have HB0 := Lib.hid hb0
  clear hw0 hg0 hb0 hcs HRB
  have hbl := (Array.getElem?_eq_some_iff.1 HG0.out).1
  have hsrc : Src w0 w0.heap.size (some ⟨w.heap.size, 0, none⟩) 3 3 abc := ⟨rfl, abc_byt, fun _ => ⟨w.heap.size, 0, rfl, hbl, Nat.le_refl _, fun j hj => by
    rw [Nat.zero_add, cell_of_row _ w.heap.size j _ _ _ HG0.out]
    have : j = 0 ∨ j = 1 ∨ j = 2 := by omega
    rcases this with rfl | rfl | rfl <;> rfl⟩⟩
  have HP := Lib.hid (put0_any (some ⟨w.heap.size, 0, none⟩) 3 3 abc w0 hsrc (fun h => by cases h) (by omega) (HK.out.below HB0.out hk0) (by have := HB0.out.size; omega))
  clear hsrc
  refine HP.out.mono ?_
  rintro e w1 ⟨sp1, cap1, g1, rfl, ho1, hr1, hb1⟩
  have HO1 := Lib.hid ho1; have HR1 := Lib.hid hr1
  have HB1 := Lib.hid (HB0.out.trans (hb1.mono HB0.out.size))
  have HD := Lib.hid (heap_alloc_new w1 (.cells (Array.replicate 32 (Value.int .u8 0)) 29))
  clear ho1 hr1 hb1
  go_wp2_with (first
    | (refine wpList_store_row rfl 29 _ _ rfl w1.heap.size _ rfl rfl 29 _ HD.out (dg_info _) (by rw [dg_size]; rfl) (dg_one _) ?_; rw [setRow_new]; generalize hw3 : World.alloc w1 _ = w3; have hr3 : w3.rangeAt w1.heap.size 0 ((shb abc).map (Value.int .u8)) := (by rw [← hw3]; exact range_row (pre := []) (post := []) (heap_alloc_new w1 _) (by simp; rfl) rfl); have hb3 : Below w1.heap.size w1 w3 := (by rw [← hw3]; exact (Below.refl _ _).alloc (Nat.le_refl _) _); have hs3 : w1.heap.size < w3.heap.size := (by rw [← hw3]; simp); have HR3 := Lib.hid hr3; have HI3 := Lib.hid (info_d (shb_ok abc)); have HO3 := Lib.hid (HO1.out.below hb3); have HRR3 := Lib.hid (own_belowG HR1.out hb3); have HB3 := Lib.hid (HB1.out.trans (hb3.mono HB1.out.size)); clear hw3 hr3 hb3)
    | (refine wpList_load_mid rfl 29 _ rfl w1.heap.size 0 rfl _ _ HR3.out Tryz.underlying29 rfl HI3.out ?_))
  have hob : BlsIn w3 w3.heap.size sp1 1 cap1 [⟨shb abc, some ⟨g1, 0, none⟩, 3, 3, abc⟩] := HO3.out.bls rfl (fun x hx => by
    rw [List.mem_singleton.1 hx]
    obtain ⟨spq, capq, e, hsq, hnq⟩ := src_of_own (w := w3) (xs := abc) HRR3.out abc_byt
    injection e with e1 e2 e3
    subst e1; subst e3
    exact ⟨hsq, hnq⟩)
  have hgt := get_any sp1 1 cap1 [⟨shb abc, some ⟨g1, 0, none⟩, 3, 3, abc⟩] (shb abc) w3 hob (by omega) (fun x hx => by rw [List.mem_singleton.1 hx]; show 3 ≤ _; omega) (shb_ok abc)
  have HGT := Lib.hid hgt
  clear hgt hob
  refine HGT.out.mono ?_
  rintro e w4 ⟨⟨rfl, hno⟩ | ⟨k, x, g4, rfl, hx, -, -, ho4⟩, hb4⟩
  · exact absurd rfl (hno ⟨shb abc, some ⟨g1, 0, none⟩, 3, 3, abc⟩ (by simp))
  have hx0 : x = ⟨shb abc, some ⟨g1, 0, none⟩, 3, 3, abc⟩ := List.mem_singleton.1 (List.mem_of_getElem? hx)
  subst hx0
  have HB4 := Lib.hid (HB3.out.trans (hb4.mono HB3.out.size))
  have hR4 := range_belowG HR3.out hb4 hs3
  have hc4 : w4.cell? ⟨w1.heap.size, 0, none⟩ = some (.int .u8 186) := by
    have h1 := hR4 0 (.int .u8 ((shb abc).getD 0 0)) (by rw [getD_map _ _ _ 0 (by rw [shb_len]; omega)])
    rw [show (shb abc).getD 0 0 = 186 from abc_first] at h1
    exact h1
  have hcv := abc_conv w4 g4 _ ho4
  clear hx ho4 hb4 hR4
  go_wp2_with fail
  go_ret
  exact ⟨rfl, HB4.out⟩
end Go.Proofs.YtdjknefbaclleaaGreatDoor
