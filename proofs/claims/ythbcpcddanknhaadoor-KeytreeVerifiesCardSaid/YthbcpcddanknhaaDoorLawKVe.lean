/-
  The walk of KeytreeVerifies (conditions: the arguments read as a half, a number and a list of digests; the table of constants reads as it is laid).
-/
import Derived.Test.YthbcpcddanknhaaDoorKeyW
import Derived.Test.YthbcpcddanknhaaDoorTreeA
import Derived.Deep.DeepCutAuto
namespace Go.Proofs.YthbcpcddanknhaaDoor
open Go.RowKit Go.Proofs.YthbcpcddanknhaaDoor.One

theorem buildSg (x : List Int) (hx : H16 x) (h : Int) (w : World) :
    (Instr.build 38 #[(0, .agg (x.map (Value.int .u8)).toArray), (1, .int .i64 h)]).run Tryd.prog w = .ok (.agg (sgA x h 0)) w := by
  refine run_build w _ _ _ ?_
  rw [built_fill zeroSg Tryd.underlying38 (places := [(0, 16), (16, 1), (17, 1)]) (by kernel_rfl)]
  show Instr.fill _ ([] ++ (List.replicate 16 (Value.int .u8 0) ++ [Value.int .i64 0, Value.int .i64 0])).toArray [(0, .agg (x.map (Value.int .u8)).toArray), (1, .int .i64 h)] = _
  rw [fill_put (x.map (Value.int .u8)) [] (List.replicate 16 (Value.int .u8 0)) [Value.int .i64 0, Value.int .i64 0] (off := 0) (sz := 16) rfl rfl (by rw [List.length_map, hx.1]) rfl rfl, List.nil_append]
  rw [show x.map (Value.int .u8) ++ [Value.int .i64 0, Value.int .i64 0] = x.map (Value.int .u8) ++ ([Value.int .i64 0] ++ [Value.int .i64 0]) by simp]
  rw [fill_put [Value.int .i64 h] (x.map (Value.int .u8)) [Value.int .i64 0] [Value.int .i64 0] (off := 16) (sz := 1) rfl rfl rfl (by rw [List.length_map, hx.1]) rfl]
  simp [Instr.fill, sgA, sgL]
theorem yieldsIf_buildK {P : Program} {ops : Array Oper} {S : World → Prop} {op : Oper} {a : Act} (hw : Region.wanted op (yielded ops a.tmps) = true) (t : TypeId) (parts : List (Nat × Operand)) (ho : op.op = .build t parts.toArray)
    (vs : List (Nat × Value)) (hv : (parts.map fun (i, x) => (i, a.eval x)) = vs) (v : Value) (hrun : ∀ w, S w → (Instr.build t vs.toArray).run P w = .ok v w) : YieldsIf P ops S op v a := by
  refine Or.inl ⟨hw, fun w hSw => ?_⟩
  unfold execOp
  simp only [ho, Sem.run_bind, List.map_toArray, hv, hrun w hSw, Result.andThen_ok]
  rfl
/-- where a signer was laid -/
structure S7 (w : World) (x : List Int) (h n : Int) (b gs : Nat) (w0 : World) : Prop where
  b : w0.heap[b]? = some (.cells (hvA x) 23 (0, 0))
  s : w0.heap[gs]? = some (.cells (sgA x h n) 38 (0, 0))
  bel : Below w.heap.size w w0
  lt : w.heap.size ≤ gs ∧ gs < w0.heap.size
theorem neqSg0 (w : World) : (binOp .neq 38 (.agg (sgA zh16 0 0)) (.agg (sgA zh16 0 0))).run Tryd.prog w = .ok (.bool false) w := by kernel_rfl
theorem wpList_binK {P : Program} {ops : Array Oper} {rest : List Oper} {o : Oper} {a : Act} {w : World} {Q : Exit → Act → World → Prop} (hw : Region.wanted o (yielded ops a.tmps) = true) (op : BinOp) (t u : TypeId) (x y : Operand) (ho : o.op = .binOp op t x y u)
    (vx vy v : Value) (hx : a.eval x = vx) (hy : a.eval y = vy) (heg : (eqGuard op t x y vx vy).run P w = .ok () w) (hb : (binOp op t vx vy).run P w = .ok v w) (h : wpList P ops Q rest (a.put o.dst v) w) : wpList P ops Q (o :: rest) a w :=
  wpList_step fun K hK => by
    rw [if_pos hw]
    unfold Oper.wp execOp
    simp only [ho, hx, hy, Sem.run_bind, heg, hb, Result.andThen_ok]
    exact hK _ _ h
theorem wrap_pow {h : Nat} (hh : h ≤ 2) : wrap64 ((2 : Int) ^ h) = ((2 ^ h : Nat) : Int) := by
  have : h = 0 ∨ h = 1 ∨ h = 2 := by omega
  rcases this with rfl | rfl | rfl <;> (unfold wrap64; simp)
/-- what a signature that was made leaves in memory -/
structure VOk (w : World) (x d : List Int) (h k gs gk ga gb : Nat) (spc : Option Addr) (capc gp : Nat) (wx : World) : Prop where
  a : wx.heap[ga]? = some (.cells (sgA x h ((k : Int) + 1)) 38 (0, 0))
  z : wx.heap[gb]? = some (.cells (siA (k : Int) (.slice spc 68 capc) (.slice (some ⟨gp, 0, none⟩) h h)) 41 (0, 0))
  s : wx.heap[gs]? = some (.cells (sgA x h k) 38 (0, 0))
  p : wx.heap[gk]? = some (.cells (pkA h (nodK x h 0)) 25 (0, 0))
  c : OwnHv wx w.heap.size (.slice spc 68 capc) (sigB x k d)
  q : OwnHv wx w.heap.size (.slice (some ⟨gp, 0, none⟩) h h) (pathB x h k)
  b : Below w.heap.size w wx
  i : gs < ga ∧ gk < ga ∧ gs < gb ∧ gk < gb ∧ ga ≠ gb
  j : gs < wx.heap.size ∧ gk < wx.heap.size ∧ ga < wx.heap.size ∧ gb < wx.heap.size
/-- what a signer that is used up leaves in memory -/
structure VNo (w : World) (x : List Int) (h N gs gk ga : Nat) (wx : World) : Prop where
  a : wx.heap[ga]? = some (.cells (sgA zh16 0 0) 38 (0, 0))
  s : wx.heap[gs]? = some (.cells (sgA x h (N : Int)) 38 (0, 0))
  p : wx.heap[gk]? = some (.cells (pkA h (nodK x h 0)) 25 (0, 0))
  b : Below w.heap.size w wx
  j : gs < wx.heap.size ∧ gk < wx.heap.size
set_option maxRecDepth 100000 in
set_option maxHeartbeats 8000000 in
theorem keytreeVerifies_any (x : List Int) (hg : Int) (sp : Option Addr) (n cap : Nat) (dl : List (List Int)) (w : World) (hx : H16 x) (hd : DigsIn w w.heap.size sp n cap dl) (hz : sp = none → cap = 0) (hn : n ≤ 9223372036854775807) (hk : KayIn w) (hk0 : 0 < w.heap.size) :
    Calls Tryd.prog 5 #[.agg (hvA x), .int .i64 hg, .slice sp n cap] w fun e w' => e = .returned (.bool true) ∧ Below w.heap.size w w' := by
  obtain ⟨h, hh⟩ : ∃ h : Nat, hg % 3 = (h : Int) := ⟨(hg % 3).toNat, by omega⟩
  have h2 : h ≤ 2 := by omega
  have HHG := Lib.hid hh
  have HX := Lib.hid hx; have HD := Lib.hid hd; have HK := Lib.hid hk
  have HIX := Lib.hid (info_h2' hx)
  clear hx hd hk hz hh
  have HR := Lib.hid (RowB.new w 23 x)
  go_enter Tryd.func5, Tryd.ntmps5
  go_upto_region 1 with (fail)
  generalize hw0 : World.alloc w _ = w0
  have HR0 : Hid (RowB w 23 x w0) := by rw [← hw0]; exact HR.out
  clear hw0 HR
  have hs0 : w.heap.size + 1 ≤ w0.heap.size := Nat.le_of_eq HR0.out.s.symm
  have HSX : Hid (w0.rangeAt w.heap.size 0 (x.map (Value.int .u8))) := row_rngK HR0.out.r
  go_cut [7] (fun s7 wx => ∃ gs : Nat, s7 = .pointer (some ⟨gs, 0, none⟩) ∧ Hid (S7 w x h 0 w.heap.size gs wx))
  case first =>
    as_aux_lemma =>
      refine wp_region_held_drew (S := fun w' => w'.rangeAt w.heap.size 0 (x.map (Value.int .u8))) (by kernel_rfl) HSX.out (fun hHeld => ?_)
      refine' wpAnyH_take (i := 0) (oi := _) (v := _) rfl (by kernel_rfl) (by kernel_rfl) (by kernel_rfl) (fun _ _ _ h => h) (yieldsIf_load_mid (by rfl) _ _ rfl _ _ rfl _ _ ?hS0n1 Tryd.underlying23 rfl HIX.out) (by assumption) ?rest0n1
      case hS0n1 =>
        intro w' hSw
        exact hSw
      try simp only [Act.put, List.getElem_toArray, List.getElem_cons_succ, List.getElem_cons_zero, List.setIfInBounds_toArray, List.set_cons_zero, List.set_cons_succ]
      refine wpAnyH_take (i := 1) (oi := _) (v := ?v1n2) rfl (by kernel_rfl) (by kernel_rfl) (by kernel_rfl) (fun _ _ _ h => h) (Or.inl ⟨by rfl, ?hy1n2⟩) (by assumption) ?rest1n2
      case hy1n2 =>
        intro w' hSw
        go_simp
        try with_reducible rfl
      try simp only [Act.put, List.getElem_toArray, List.getElem_cons_succ, List.getElem_cons_zero, List.setIfInBounds_toArray, List.set_cons_zero, List.set_cons_succ]
      refine wpAnyH_ready (rs := [2, 4]) (by kernel_rfl) (by simp) (AllReadyH.cons (o := _) rfl (fun K hK => ?_) (AllReadyH.cons (o := _) rfl (fun K hK => ?_) AllReadyH.nil))
      · go_simp
        with_reducible refine (low_any hg _).mono ?_
        rintro e w' ⟨rfl, rfl⟩
        rw [HHG.out]
        go_wp2_with fail
        refine hK.out _ _ HSX.out (fun hHeld => ?_)
        clear hK K
        try simp only [Act.put, List.getElem_toArray, List.getElem_cons_succ, List.getElem_cons_zero, List.setIfInBounds_toArray, List.set_cons_zero, List.set_cons_succ]
        refine wpAnyH_take (i := 3) (oi := _) (v := _) rfl (by kernel_rfl) (by kernel_rfl) (by kernel_rfl) (fun _ _ _ h => h) (yieldsIf_buildK (by rfl) 38 [(0, .tmp 14), (1, .tmp 16)] rfl [(0, .agg (x.map (Value.int .u8)).toArray), (1, .int .i64 (h : Int))] rfl _ (fun w' _ => buildSg x HX.out (h : Int) w')) (by assumption) ?rest3n3
        try simp only [Act.put, List.getElem_toArray, List.getElem_cons_succ, List.getElem_cons_zero, List.setIfInBounds_toArray, List.set_cons_zero, List.set_cons_succ]
        refine wpAnyH_ready (rs := [4]) (by kernel_rfl) (by simp) (AllReadyH.cons (o := _) rfl (fun K hK => ?_) AllReadyH.nil)
        have HO := Lib.hid (heap_alloc_new w0 (.cells (sgA zh16 0 0) 38))
        have HQ := Lib.hid (below_alloc w0 (.cells (sgA zh16 0 0) 38))
        have HN := Lib.hid (alloc_size w0 (.cells (sgA zh16 0 0) 38))
        go_simp
        generalize hw : World.drew (World.alloc w0 _) = w1
        have HZ1 : Hid (w1.heap[w0.heap.size]? = some (.cells (sgA zh16 0 0) 38 (0, 0))) := by rw [← hw]; exact HO.out
        have HE1 : Hid (Below w0.heap.size w0 w1) := by rw [← hw]; exact HQ.out.drew
        have hg1 : w0.heap.size < w1.heap.size := by rw [← hw]; exact Nat.lt_of_lt_of_eq (Nat.lt_succ_self _) HN.out.symm
        have HX1 : Hid (w1.rangeAt w.heap.size 0 (x.map (Value.int .u8))) := range_belowG HSX.out HE1.out (by omega)
        clear hw HO HQ HN
        refine hK.out _ _ HX1.out (fun hHeld => ?_)
        clear hK K
        try simp only [Act.put, List.getElem_toArray, List.getElem_cons_succ, List.getElem_cons_zero, List.setIfInBounds_toArray, List.set_cons_zero, List.set_cons_succ]
        refine wpAnyH_ready (rs := [5]) (by kernel_rfl) (by simp) (AllReadyH.cons (o := _) rfl (fun K hK => ?_) AllReadyH.nil)
        rw [if_pos (by rfl)]
        refine wp_store_row 38 _ _ rfl w0.heap.size (sgA x (h : Int) 0) rfl rfl 38 _ HZ1.out (info_sg HX.out) (by rw [sgA_size zh16_H16, sgA_size HX.out]) (one_sg _ _ _) ?_
        generalize hw : World.setRow w1 _ _ = w2
        have HS2 : Hid (w2.heap[w0.heap.size]? = some (.cells (sgA x (h : Int) 0) 38 (0, 0))) := by rw [← hw]; exact setRow_heap _ _ _ _ _ _ HZ1.out
        have HE2 : Hid (Below w0.heap.size w0 w2) := by rw [← hw]; exact below_setRow HE1.out (Nat.le_refl _) _
        have hg2 : w0.heap.size < w2.heap.size := by rw [← hw]; simp [World.setRow]; omega
        have HX2 : Hid (w2.rangeAt w.heap.size 0 (x.map (Value.int .u8))) := range_belowG HSX.out HE2.out (by omega)
        clear hw
        skip
        refine hK.out _ _ HX2.out (fun hHeld => ?_)
        clear hK K
        try simp only [Act.put, List.getElem_toArray, List.getElem_cons_succ, List.getElem_cons_zero, List.setIfInBounds_toArray, List.set_cons_zero, List.set_cons_succ]
        refine wpAnyH_done (by kernel_rfl) ?_ _
        go_wp2_with fail
        go_meet
        exact ⟨w0.heap.size, rfl, (HE2.out.block _ (by omega)).trans HR0.out.r, HS2.out, HR0.out.b.trans (HE2.out.mono (by omega)), by omega, by omega⟩
      · have HO := Lib.hid (heap_alloc_new w0 (.cells (sgA zh16 0 0) 38))
        have HQ := Lib.hid (below_alloc w0 (.cells (sgA zh16 0 0) 38))
        have HN := Lib.hid (alloc_size w0 (.cells (sgA zh16 0 0) 38))
        go_simp
        generalize hw : World.drew (World.alloc w0 _) = w1
        have HZ1 : Hid (w1.heap[w0.heap.size]? = some (.cells (sgA zh16 0 0) 38 (0, 0))) := by rw [← hw]; exact HO.out
        have HE1 : Hid (Below w0.heap.size w0 w1) := by rw [← hw]; exact HQ.out.drew
        have hg1 : w0.heap.size < w1.heap.size := by rw [← hw]; exact Nat.lt_of_lt_of_eq (Nat.lt_succ_self _) HN.out.symm
        have HX1 : Hid (w1.rangeAt w.heap.size 0 (x.map (Value.int .u8))) := range_belowG HSX.out HE1.out (by omega)
        clear hw HO HQ HN
        refine hK.out _ _ HX1.out (fun hHeld => ?_)
        clear hK K
        try simp only [Act.put, List.getElem_toArray, List.getElem_cons_succ, List.getElem_cons_zero, List.setIfInBounds_toArray, List.set_cons_zero, List.set_cons_succ]
        refine wpAnyH_ready (rs := [2]) (by kernel_rfl) (by simp) (AllReadyH.cons (o := _) rfl (fun K hK => ?_) AllReadyH.nil)
        go_simp
        with_reducible refine (low_any hg _).mono ?_
        rintro e w' ⟨rfl, rfl⟩
        rw [HHG.out]
        go_wp2_with fail
        refine hK.out _ _ HX1.out (fun hHeld => ?_)
        clear hK K
        try simp only [Act.put, List.getElem_toArray, List.getElem_cons_succ, List.getElem_cons_zero, List.setIfInBounds_toArray, List.set_cons_zero, List.set_cons_succ]
        refine wpAnyH_take (i := 3) (oi := _) (v := _) rfl (by kernel_rfl) (by kernel_rfl) (by kernel_rfl) (fun _ _ _ h => h) (yieldsIf_buildK (by rfl) 38 [(0, .tmp 14), (1, .tmp 16)] rfl [(0, .agg (x.map (Value.int .u8)).toArray), (1, .int .i64 (h : Int))] rfl _ (fun w' _ => buildSg x HX.out (h : Int) w')) (by assumption) ?rest3n4
        try simp only [Act.put, List.getElem_toArray, List.getElem_cons_succ, List.getElem_cons_zero, List.setIfInBounds_toArray, List.set_cons_zero, List.set_cons_succ]
        refine wpAnyH_ready (rs := [5]) (by kernel_rfl) (by simp) (AllReadyH.cons (o := _) rfl (fun K hK => ?_) AllReadyH.nil)
        rw [if_pos (by rfl)]
        refine wp_store_row 38 _ _ rfl w0.heap.size (sgA x (h : Int) 0) rfl rfl 38 _ HZ1.out (info_sg HX.out) (by rw [sgA_size zh16_H16, sgA_size HX.out]) (one_sg _ _ _) ?_
        generalize hw : World.setRow w1 _ _ = w2
        have HS2 : Hid (w2.heap[w0.heap.size]? = some (.cells (sgA x (h : Int) 0) 38 (0, 0))) := by rw [← hw]; exact setRow_heap _ _ _ _ _ _ HZ1.out
        have HE2 : Hid (Below w0.heap.size w0 w2) := by rw [← hw]; exact below_setRow HE1.out (Nat.le_refl _) _
        have hg2 : w0.heap.size < w2.heap.size := by rw [← hw]; simp [World.setRow]; omega
        have HX2 : Hid (w2.rangeAt w.heap.size 0 (x.map (Value.int .u8))) := range_belowG HSX.out HE2.out (by omega)
        clear hw
        skip
        refine hK.out _ _ HX2.out (fun hHeld => ?_)
        clear hK K
        try simp only [Act.put, List.getElem_toArray, List.getElem_cons_succ, List.getElem_cons_zero, List.setIfInBounds_toArray, List.set_cons_zero, List.set_cons_succ]
        refine wpAnyH_done (by kernel_rfl) ?_ _
        go_wp2_with fail
        go_meet
        exact ⟨w0.heap.size, rfl, (HE2.out.block _ (by omega)).trans HR0.out.r, HS2.out, HR0.out.b.trans (HE2.out.mono (by omega)), by omega, by omega⟩
  case rest =>
  obtain ⟨gs, rfl, HC1⟩ := hcut
  clear HR0 HSX hs0
  have HB1 := Lib.hid HC1.out.b; have HS1 := Lib.hid HC1.out.s; have HW1 := Lib.hid HC1.out.bel
  have hgs := HC1.out.lt
  clear HC1
  have HK1 : Hid (KayIn wc) := HK.out.below HW1.out hk0
  have hk1 : 0 < wc.heap.size := by omega
  have c16 := sg_h HX.out HS1.out
  go_wp2_with (refine wpList_load_row rfl 23 _ rfl w.heap.size rfl 23 _ (0, 0) _ HB1.out Tryd.underlying23 rfl (info_h HX.out) ?_)
  clear c16
  refine (new_any x h wc HX.out (by omega) HK1.out hk1).mono ?_
  rintro e w1 ⟨rfl, hb1⟩
  have HE1 := Lib.hid hb1; clear hb1
  have hz1 := HE1.out.size
  have HNK := Lib.hid (nodK_H16 x h 0)
  have HZP := Lib.hid (PkRow.new w1 0 zh16)
  have HRP := Lib.hid (PkRow.new w1 h (nodK x h 0))
  go_wp2_with (refine wpList_store_row rfl 25 _ _ rfl w1.heap.size _ rfl rfl 25 _ HZP.out.k (info_pk HNK.out) (by rw [pkA_size HNK.out]; rfl) (one_pk _ _) ?_; rw [setRow_new]; generalize hw2 : World.alloc w1 _ = w2; have HP2 : Hid (PkRow w1 h (nodK x h 0) w2) := (by rw [← hw2]; exact HRP.out); clear hw2 HZP HRP)
  obtain ⟨gk, hgk⟩ : ∃ gk, gk = w1.heap.size := ⟨_, rfl⟩
  rw [← hgk]
  have HPw2 : Hid (w2.heap[gk]? = some (.cells (pkA (h : Int) (nodK x h 0)) 25 (0, 0))) := by rw [hgk]; exact HP2.out.k
  have HSw2 : Hid (w2.heap[gs]? = some (.cells (sgA x h ((min 0 (2 ^ h) : Nat) : Int)) 38 (0, 0))) := by rw [Nat.zero_min]; exact (HP2.out.b.block _ (by omega)).trans ((HE1.out.block _ (by omega)).trans HS1.out)
  have HBw2 : Hid (Below w.heap.size w w2) := HW1.out.trans ((HE1.out.mono (by omega)).trans (HP2.out.b.mono (by omega)))
  have hgk2 : gs < gk ∧ gk < w2.heap.size := by rw [hgk]; have := HP2.out.s; omega
  clear hgk HP2 HE1 hz1 HB1 HS1 HW1 HK1 hk1
  have hN : 2 ^ h ≤ 4 := by have : 2 ^ h ≤ 2 ^ 2 := Nat.pow_le_pow_right (by omega) h2; omega
  go_loopw [10] (fun i wr => ∃ k : Nat, k ≤ n ∧ i = .int .i64 (k : Int) ∧ Hid (wr.heap[gs]? = some (.cells (sgA x h ((min k (2 ^ h) : Nat) : Int)) 38 (0, 0))) ∧ Hid (wr.heap[gk]? = some (.cells (pkA (h : Int) (nodK x h 0)) 25 (0, 0))) ∧ Hid (Below w.heap.size w wr) ∧ gk < wr.heap.size) (fun i _ => n - (intOf i).toNat)
  case atStart => exact ⟨0, by omega, rfl, HSw2.out, HPw2.out, HBw2.out, hgk2.2⟩
  case round =>
    clear HSw2 HPw2 HBw2
    obtain ⟨k, hkn, rfl, HSR, HPwr, HBwr, hgr⟩ := hrel
    have hgs2 : w.heap.size ≤ gs ∧ gs < gk := ⟨hgs.1, hgk2.1⟩
    clear hgs hgk2
    by_cases hlt : k < n ∧ k < 6
    · obtain ⟨hlt1, hlt6⟩ := hlt
      have hd1 : decide ((k : Int) < (n : Int)) = true := by simp; omega
      have hd2 : decide ((k : Int) < 6) = true := by simp; omega
      obtain ⟨db, doff, rfl, hdb, hdc, hdr⟩ := HD.out.cells (by omega)
      have HDr := Lib.hid (hdr k hlt1)
      have HD32 : Hid (D32 (dl.getD k [])) := by
        have hl := HD.out.len
        rw [List.getD_eq_getElem?_getD, List.getElem?_eq_getElem (by omega)]
        exact HD.out.digs _ (List.getElem_mem _)
      clear hdr
      generalize dl.getD k [] = d at *
      have HID := Lib.hid (info_d HD32.out)
      have HDwr : Hid (wr.rangeAt db (doff + k * 32) (d.map (Value.int .u8))) := range_belowG HDr.out HBwr.out hdb
      have p1 : (0 : Int) ≤ (k : Int) := by omega
      have p2 : (k : Int) < (n : Int) := by omega
      have p3 : (n : Int) ≤ (cap : Int) := by omega
      by_cases hok : k < 2 ^ h
      · have HSwr : Hid (wr.heap[gs]? = some (.cells (sgA x (h : Int) (k : Int)) 38 (0, 0))) := by have h3 := HSR.out; rw [Nat.min_eq_left (by omega)] at h3; exact h3
        clear HSR
        have HCS := Lib.hid (fun w' (hb : Below w.heap.size w w') (hz : 0 < w'.heap.size) => (show Calls Tryd.prog 19 #[.agg (sgL x h k).toArray, .agg (d.map (Value.int .u8)).toArray] w' fun e w'' => ∃ spc capc gp, e = .returned (.tuple #[.agg (sgA x h (k + 1)), .agg (siA k (.slice spc 68 capc) (.slice (some ⟨gp, 0, none⟩) h h)), .int .i64 0]) ∧ OwnHv w'' w'.heap.size (.slice spc 68 capc) (sigB x k d) ∧ OwnHv w'' w'.heap.size (.slice (some ⟨gp, 0, none⟩) h h) (pathB x h k) ∧ Below w'.heap.size w' w'' from sign_ok x h k d w' HX.out HD32.out (by omega) hok (HK.out.below hb hk0) hz))
        go_upto_region 8 with (fail)
        go_cut [11, 12, 13] (fun s11 s12 s13 wx => ∃ (ga gb : Nat) (spc : Option Addr) (capc gp : Nat), s11 = .pointer (some ⟨ga, 0, none⟩) ∧ s12 = .pointer (some ⟨gb, 0, none⟩) ∧ s13 = .int .i64 0 ∧ Hid (VOk w x d h k gs gk ga gb spc capc gp wx))
        case first =>
          as_aux_lemma =>
            refine wp_region_held_drew (S := fun w' => w'.heap[gs]? = some (.cells (sgA x (h : Int) (k : Int)) 38 (0, 0)) ∧ w'.rangeAt db (doff + k * 32) (d.map (Value.int .u8))) (by kernel_rfl) ⟨HSwr.out, HDwr.out⟩ (fun hHeld => ?_)
            refine' wpAnyH_take (i := 0) (oi := _) (v := _) rfl (by kernel_rfl) (by kernel_rfl) (by kernel_rfl) (fun _ _ _ h => h) (yieldsIf_load_mid (by rfl) _ _ rfl _ _ rfl _ _ ?hS0n5 Tryd.underlying38 rfl (info_sgL HX.out)) (by assumption) ?rest0n5
            case hS0n5 =>
              intro w' hSw
              exact row_rngK hSw.1
            try simp only [Act.put, List.getElem_toArray, List.getElem_cons_succ, List.getElem_cons_zero, List.setIfInBounds_toArray, List.set_cons_zero, List.set_cons_succ]
            refine wpAnyH_take (i := 1) (oi := _) (v := ?v1n6) rfl (by kernel_rfl) (by kernel_rfl) (by kernel_rfl) (fun _ _ _ h => h) (Or.inl ⟨by rfl, ?hy1n6⟩) (by assumption) ?rest1n6
            case hy1n6 =>
              intro w' hSw
              go_simp
              try with_reducible rfl
            try simp only [Act.put, List.getElem_toArray, List.getElem_cons_succ, List.getElem_cons_zero, List.setIfInBounds_toArray, List.set_cons_zero, List.set_cons_succ]
            refine wpAnyH_take (i := 2) (oi := _) (v := ?v2n7) rfl (by kernel_rfl) (by kernel_rfl) (by kernel_rfl) (fun _ _ _ h => h) (Or.inl ⟨by rfl, ?hy2n7⟩) (by assumption) ?rest2n7
            case hy2n7 =>
              intro w' hSw
              go_simp
              try with_reducible rfl
            try simp only [Act.put, List.getElem_toArray, List.getElem_cons_succ, List.getElem_cons_zero, List.setIfInBounds_toArray, List.set_cons_zero, List.set_cons_succ]
            refine wpAnyH_take (i := 3) (oi := _) (v := ?v3n8) rfl (by kernel_rfl) (by kernel_rfl) (by kernel_rfl) (fun _ _ _ h => h) (Or.inl ⟨by rfl, ?hy3n8⟩) (by assumption) ?rest3n8
            case hy3n8 =>
              intro w' hSw
              go_simp
              try with_reducible rfl
            try simp only [Act.put, List.getElem_toArray, List.getElem_cons_succ, List.getElem_cons_zero, List.setIfInBounds_toArray, List.set_cons_zero, List.set_cons_succ]
            refine' wpAnyH_take (i := 4) (oi := _) (v := _) rfl (by kernel_rfl) (by kernel_rfl) (by kernel_rfl) (fun _ _ _ h => h) (yieldsIf_load_mid (by rfl) _ _ rfl _ _ rfl _ _ ?hS4n9 Tryd.underlying32 rfl HID.out) (by assumption) ?rest4n9
            case hS4n9 =>
              intro w' hSw
              exact hSw.2
            try simp only [Act.put, List.getElem_toArray, List.getElem_cons_succ, List.getElem_cons_zero, List.setIfInBounds_toArray, List.set_cons_zero, List.set_cons_succ]
            refine wpAnyH_ready (rs := [5, 10, 11]) (by kernel_rfl) (by simp) (AllReadyH.cons (o := _) rfl (fun K hK => ?_) (AllReadyH.cons (o := _) rfl (fun K hK => ?_) (AllReadyH.cons (o := _) rfl (fun K hK => ?_) AllReadyH.nil)))
            · go_simp
              with_reducible refine (HCS.out _ HBwr.out.drew (by have := (HBwr.out.drew).size; omega)).mono ?_
              rintro e v1 ⟨spc, capc, gp, rfl, hc, hq, hb⟩
              have HEv1 : Hid (Below wr.heap.size wr v1) := (Below.refl _ _).drew.trans hb
              have HCv1 : Hid (OwnHv v1 w.heap.size (.slice spc 68 capc) (sigB x k d)) := hc.base (HBwr.out.drew).size
              have HQv1 : Hid (OwnHv v1 w.heap.size (.slice (some ⟨gp, 0, none⟩) h h) (pathB x h k)) := hq.base (HBwr.out.drew).size
              clear hc hq hb
              have HSv1 : Hid (v1.heap[gs]? = some (.cells (sgA x (h : Int) (k : Int)) 38 (0, 0))) := (HEv1.out.block _ (by omega)).trans HSwr.out
              have HPv1 : Hid (v1.heap[gk]? = some (.cells (pkA (h : Int) (nodK x h 0)) 25 (0, 0))) := (HEv1.out.block _ (by omega)).trans HPwr.out
              have HBv1 : Hid (Below w.heap.size w v1) := HBwr.out.trans (HEv1.out.mono (by omega))
              have hsv1 : gs < v1.heap.size ∧ gk < v1.heap.size ∧ w.heap.size ≤ v1.heap.size := by have := HEv1.out.size; omega
              have HDv1 : Hid (v1.rangeAt db (doff + k * 32) (d.map (Value.int .u8))) := range_belowG HDr.out HBv1.out hdb
              go_wp2_with fail
              refine hK.out _ _ ⟨HSv1.out, HDv1.out⟩ (fun hHeld => ?_)
              clear hK K
              try simp only [Act.put, List.getElem_toArray, List.getElem_cons_succ, List.getElem_cons_zero, List.setIfInBounds_toArray, List.set_cons_zero, List.set_cons_succ]
              refine wpAnyH_take (i := 6) (oi := _) (v := ?v6n10) rfl (by kernel_rfl) (by kernel_rfl) (by kernel_rfl) (fun _ _ _ h => h) (Or.inl ⟨by rfl, ?hy6n10⟩) (by assumption) ?rest6n10
              case hy6n10 =>
                intro w' hSw
                go_simp
                try with_reducible rfl
              try simp only [Act.put, List.getElem_toArray, List.getElem_cons_succ, List.getElem_cons_zero, List.setIfInBounds_toArray, List.set_cons_zero, List.set_cons_succ]
              refine wpAnyH_take (i := 7) (oi := _) (v := ?v7n11) rfl (by kernel_rfl) (by kernel_rfl) (by kernel_rfl) (fun _ _ _ h => h) (Or.inl ⟨by rfl, ?hy7n11⟩) (by assumption) ?rest7n11
              case hy7n11 =>
                intro w' hSw
                go_simp
                try with_reducible rfl
              try simp only [Act.put, List.getElem_toArray, List.getElem_cons_succ, List.getElem_cons_zero, List.setIfInBounds_toArray, List.set_cons_zero, List.set_cons_succ]
              refine wpAnyH_take (i := 8) (oi := _) (v := ?v8n12) rfl (by kernel_rfl) (by kernel_rfl) (by kernel_rfl) (fun _ _ _ h => h) (Or.inl ⟨by rfl, ?hy8n12⟩) (by assumption) ?rest8n12
              case hy8n12 =>
                intro w' hSw
                go_simp
                try with_reducible rfl
              try simp only [Act.put, List.getElem_toArray, List.getElem_cons_succ, List.getElem_cons_zero, List.setIfInBounds_toArray, List.set_cons_zero, List.set_cons_succ]
              refine wpAnyH_take (i := 9) (oi := _) (v := ?v9n13) rfl (by kernel_rfl) (by kernel_rfl) (by kernel_rfl) (fun _ _ _ h => h) (Or.inl ⟨by rfl, ?hy9n13⟩) (by assumption) ?rest9n13
              case hy9n13 =>
                intro w' hSw
                go_simp
                try with_reducible rfl
              try simp only [Act.put, List.getElem_toArray, List.getElem_cons_succ, List.getElem_cons_zero, List.setIfInBounds_toArray, List.set_cons_zero, List.set_cons_succ]
              refine wpAnyH_ready (rs := [10, 11]) (by kernel_rfl) (by simp) (AllReadyH.cons (o := _) rfl (fun K hK => ?_) (AllReadyH.cons (o := _) rfl (fun K hK => ?_) AllReadyH.nil))
              · have HO := Lib.hid (heap_alloc_new v1 (.cells (sgA zh16 0 0) 38))
                have HQQ : Hid (Below v1.heap.size v1 ((v1.alloc (.cells (sgA zh16 0 0) 38)))) := (below_alloc v1 _)
                have HN := Lib.hid (alloc_size v1 (.cells (sgA zh16 0 0) 38))
                go_simp
                generalize hw : World.alloc v1 _ = v2
                obtain ⟨ga, hgs'⟩ : ∃ g, g = v1.heap.size := ⟨_, rfl⟩
                rw [← hgs']
                have HAv2 : Hid (v2.heap[ga]? = some (.cells (sgA zh16 0 0) 38 (0, 0))) := by rw [hgs', ← hw]; exact HO.out
                have HEv2 : Hid (Below v1.heap.size v1 v2) := by rw [← hw]; exact HQQ.out
                have hav2 : ga < v2.heap.size := by rw [hgs', ← hw]; exact Nat.lt_of_lt_of_eq (Nat.lt_succ_self _) HN.out.symm
                have ha0 : gs < ga ∧ gk < ga ∧ w.heap.size ≤ ga := by omega
                clear hw HO HQQ HN hgs'
                have HSv2 : Hid (v2.heap[gs]? = some (.cells (sgA x (h : Int) (k : Int)) 38 (0, 0))) := (HEv2.out.block _ (by omega)).trans HSv1.out
                have HPv2 : Hid (v2.heap[gk]? = some (.cells (pkA (h : Int) (nodK x h 0)) 25 (0, 0))) := (HEv2.out.block _ (by omega)).trans HPv1.out
                have HBv2 : Hid (Below w.heap.size w v2) := HBv1.out.trans (HEv2.out.mono (by omega))
                have hsv2 : gs < v2.heap.size ∧ gk < v2.heap.size ∧ w.heap.size ≤ v2.heap.size := by have := HEv2.out.size; omega
                have HDv2 : Hid (v2.rangeAt db (doff + k * 32) (d.map (Value.int .u8))) := range_belowG HDr.out HBv2.out hdb
                have HCv2 : Hid (OwnHv v2 w.heap.size (.slice spc 68 capc) (sigB x k d)) := HCv1.out.below HEv2.out
                have HQv2 : Hid (OwnHv v2 w.heap.size (.slice (some ⟨gp, 0, none⟩) h h) (pathB x h k)) := HQv1.out.below HEv2.out
                refine hK.out _ _ ⟨HSv2.out, HDv2.out⟩ (fun hHeld => ?_)
                clear hK K
                try simp only [Act.put, List.getElem_toArray, List.getElem_cons_succ, List.getElem_cons_zero, List.setIfInBounds_toArray, List.set_cons_zero, List.set_cons_succ]
                refine wpAnyH_ready (rs := [11]) (by kernel_rfl) (by simp) (AllReadyH.cons (o := _) rfl (fun K hK => ?_) AllReadyH.nil)
                have HO := Lib.hid (heap_alloc_new v2 (.cells (siA 0 nilS nilS) 41))
                have HQQ : Hid (Below v2.heap.size v2 ((v2.alloc (.cells (siA 0 nilS nilS) 41)))) := (below_alloc v2 _)
                have HN := Lib.hid (alloc_size v2 (.cells (siA 0 nilS nilS) 41))
                go_simp
                generalize hw : World.alloc v2 _ = v3
                obtain ⟨gb, hgs'⟩ : ∃ g, g = v2.heap.size := ⟨_, rfl⟩
                rw [← hgs']
                have HZv3 : Hid (v3.heap[gb]? = some (.cells (siA 0 nilS nilS) 41 (0, 0))) := by rw [hgs', ← hw]; exact HO.out
                have HEv3 : Hid (Below v2.heap.size v2 v3) := by rw [← hw]; exact HQQ.out
                have hbv3 : gb < v3.heap.size := by rw [hgs', ← hw]; exact Nat.lt_of_lt_of_eq (Nat.lt_succ_self _) HN.out.symm
                have hb0 : gs < gb ∧ gk < gb ∧ w.heap.size ≤ gb ∧ ga < gb := by omega
                clear hw HO HQQ HN hgs'
                have HSv3 : Hid (v3.heap[gs]? = some (.cells (sgA x (h : Int) (k : Int)) 38 (0, 0))) := (HEv3.out.block _ (by omega)).trans HSv2.out
                have HPv3 : Hid (v3.heap[gk]? = some (.cells (pkA (h : Int) (nodK x h 0)) 25 (0, 0))) := (HEv3.out.block _ (by omega)).trans HPv2.out
                have HBv3 : Hid (Below w.heap.size w v3) := HBv2.out.trans (HEv3.out.mono (by omega))
                have hsv3 : gs < v3.heap.size ∧ gk < v3.heap.size ∧ w.heap.size ≤ v3.heap.size := by have := HEv3.out.size; omega
                have HDv3 : Hid (v3.rangeAt db (doff + k * 32) (d.map (Value.int .u8))) := range_belowG HDr.out HBv3.out hdb
                have HCv3 : Hid (OwnHv v3 w.heap.size (.slice spc 68 capc) (sigB x k d)) := HCv2.out.below HEv3.out
                have HQv3 : Hid (OwnHv v3 w.heap.size (.slice (some ⟨gp, 0, none⟩) h h) (pathB x h k)) := HQv2.out.below HEv3.out
                have HAv3 : Hid (v3.heap[ga]? = some (.cells (sgA zh16 0 0) 38 (0, 0))) := (HEv3.out.block _ (by omega)).trans HAv2.out
                have hav3 : ga < v3.heap.size := by have := HEv3.out.size; omega
                refine hK.out _ _ ⟨HSv3.out, HDv3.out⟩ (fun hHeld => ?_)
                clear hK K
                try simp only [Act.put, List.getElem_toArray, List.getElem_cons_succ, List.getElem_cons_zero, List.setIfInBounds_toArray, List.set_cons_zero, List.set_cons_succ]
                refine wpAnyH_ready (rs := [12]) (by kernel_rfl) (by simp) (AllReadyH.cons (o := _) rfl (fun K hK => ?_) AllReadyH.nil)
                rw [if_pos (by rfl)]
                refine wp_store_row 38 _ _ rfl ga (sgA x (h : Int) ((k : Int) + 1)) rfl rfl 38 _ HAv3.out (info_sg HX.out) (by rw [sgA_size zh16_H16, sgA_size HX.out]) (one_sg _ _ _) ?_
                generalize hw : World.setRow v3 _ _ = wy
                have HAwy : Hid (wy.heap[ga]? = some (.cells (sgA x (h : Int) ((k : Int) + 1)) 38 (0, 0))) := by rw [← hw]; exact setRow_heap _ _ _ _ _ _ HAv3.out
                have HZwy : Hid (wy.heap[gb]? = some (.cells (siA 0 nilS nilS) 41 (0, 0))) := by rw [← hw]; exact (setRow_other _ _ _ _ (by omega)).trans HZv3.out
                have HSwy : Hid (wy.heap[gs]? = some (.cells (sgA x (h : Int) (k : Int)) 38 (0, 0))) := by rw [← hw]; exact (setRow_other _ _ _ _ (by omega)).trans HSv3.out
                have HPwy : Hid (wy.heap[gk]? = some (.cells (pkA (h : Int) (nodK x h 0)) 25 (0, 0))) := by rw [← hw]; exact (setRow_other _ _ _ _ (by omega)).trans HPv3.out
                have HBwy : Hid (Below w.heap.size w wy) := by rw [← hw]; exact below_setRow HBv3.out (by omega) _
                have HDwy : Hid (wy.rangeAt db (doff + k * 32) (d.map (Value.int .u8))) := range_belowG HDr.out HBwy.out hdb
                have HCwy : Hid (OwnHv wy w.heap.size (.slice spc 68 capc) (sigB x k d)) := by rw [← hw]; exact HCv3.out.setRow HAv3.out ne_sg _
                have HQwy : Hid (OwnHv wy w.heap.size (.slice (some ⟨gp, 0, none⟩) h h) (pathB x h k)) := by rw [← hw]; exact HQv3.out.setRow HAv3.out ne_sg _
                have hzy : wy.heap.size = v3.heap.size := by rw [← hw]; simp [World.setRow]
                clear hw
                skip
                refine hK.out _ _ ⟨HSwy.out, HDwy.out⟩ (fun hHeld => ?_)
                clear hK K
                try simp only [Act.put, List.getElem_toArray, List.getElem_cons_succ, List.getElem_cons_zero, List.setIfInBounds_toArray, List.set_cons_zero, List.set_cons_succ]
                refine wpAnyH_ready (rs := [13]) (by kernel_rfl) (by simp) (AllReadyH.cons (o := _) rfl (fun K hK => ?_) AllReadyH.nil)
                rw [if_pos (by rfl)]
                refine wp_store_row 41 _ _ rfl gb (siA (k : Int) (.slice spc 68 capc) (.slice (some ⟨gp, 0, none⟩) h h)) rfl rfl 41 _ HZwy.out (info_si _ _ _) rfl (one_si _ _ _ _ _ _ _) ?_
                generalize hw : World.setRow wy _ _ = wx
                have HZwx : Hid (wx.heap[gb]? = some (.cells (siA (k : Int) (.slice spc 68 capc) (.slice (some ⟨gp, 0, none⟩) h h)) 41 (0, 0))) := by rw [← hw]; exact setRow_heap _ _ _ _ _ _ HZwy.out
                have HAwx : Hid (wx.heap[ga]? = some (.cells (sgA x (h : Int) ((k : Int) + 1)) 38 (0, 0))) := by rw [← hw]; exact (setRow_other _ _ _ _ (by omega)).trans HAwy.out
                have HSwx : Hid (wx.heap[gs]? = some (.cells (sgA x (h : Int) (k : Int)) 38 (0, 0))) := by rw [← hw]; exact (setRow_other _ _ _ _ (by omega)).trans HSwy.out
                have HPwx : Hid (wx.heap[gk]? = some (.cells (pkA (h : Int) (nodK x h 0)) 25 (0, 0))) := by rw [← hw]; exact (setRow_other _ _ _ _ (by omega)).trans HPwy.out
                have HBwx : Hid (Below w.heap.size w wx) := by rw [← hw]; exact below_setRow HBwy.out (by omega) _
                have HDwx : Hid (wx.rangeAt db (doff + k * 32) (d.map (Value.int .u8))) := range_belowG HDr.out HBwx.out hdb
                have HCwx : Hid (OwnHv wx w.heap.size (.slice spc 68 capc) (sigB x k d)) := by rw [← hw]; exact HCwy.out.setRow HZwy.out ne_si _
                have HQwx : Hid (OwnHv wx w.heap.size (.slice (some ⟨gp, 0, none⟩) h h) (pathB x h k)) := by rw [← hw]; exact HQwy.out.setRow HZwy.out ne_si _
                have hzx : wx.heap.size = wy.heap.size := by rw [← hw]; simp [World.setRow]
                clear hw
                skip
                refine hK.out _ _ ⟨HSwx.out, HDwx.out⟩ (fun hHeld => ?_)
                clear hK K
                try simp only [Act.put, List.getElem_toArray, List.getElem_cons_succ, List.getElem_cons_zero, List.setIfInBounds_toArray, List.set_cons_zero, List.set_cons_succ]
                refine wpAnyH_take (i := 14) (oi := _) (v := ?v14n14) rfl (by kernel_rfl) (by kernel_rfl) (by kernel_rfl) (fun _ _ _ h => h) (Or.inl ⟨by rfl, ?hy14n14⟩) (by assumption) ?rest14n14
                case hy14n14 =>
                  intro w' hSw
                  go_simp
                  try with_reducible rfl
                try simp only [Act.put, List.getElem_toArray, List.getElem_cons_succ, List.getElem_cons_zero, List.setIfInBounds_toArray, List.set_cons_zero, List.set_cons_succ]
                refine wpAnyH_done (by kernel_rfl) ?_ _
                go_wp2_with fail
                go_meet
                exact ⟨ga, gb, spc, capc, gp, rfl, rfl, rfl, HAwx.out, HZwx.out, HSwx.out, HPwx.out, HCwx.out, HQwx.out, HBwx.out, by omega, by omega⟩
              · have HO := Lib.hid (heap_alloc_new v1 (.cells (siA 0 nilS nilS) 41))
                have HQQ : Hid (Below v1.heap.size v1 ((v1.alloc (.cells (siA 0 nilS nilS) 41)))) := (below_alloc v1 _)
                have HN := Lib.hid (alloc_size v1 (.cells (siA 0 nilS nilS) 41))
                go_simp
                generalize hw : World.alloc v1 _ = v2
                obtain ⟨gb, hgs'⟩ : ∃ g, g = v1.heap.size := ⟨_, rfl⟩
                rw [← hgs']
                have HZv2 : Hid (v2.heap[gb]? = some (.cells (siA 0 nilS nilS) 41 (0, 0))) := by rw [hgs', ← hw]; exact HO.out
                have HEv2 : Hid (Below v1.heap.size v1 v2) := by rw [← hw]; exact HQQ.out
                have hbv2 : gb < v2.heap.size := by rw [hgs', ← hw]; exact Nat.lt_of_lt_of_eq (Nat.lt_succ_self _) HN.out.symm
                have hb0 : gs < gb ∧ gk < gb ∧ w.heap.size ≤ gb := by omega
                clear hw HO HQQ HN hgs'
                have HSv2 : Hid (v2.heap[gs]? = some (.cells (sgA x (h : Int) (k : Int)) 38 (0, 0))) := (HEv2.out.block _ (by omega)).trans HSv1.out
                have HPv2 : Hid (v2.heap[gk]? = some (.cells (pkA (h : Int) (nodK x h 0)) 25 (0, 0))) := (HEv2.out.block _ (by omega)).trans HPv1.out
                have HBv2 : Hid (Below w.heap.size w v2) := HBv1.out.trans (HEv2.out.mono (by omega))
                have hsv2 : gs < v2.heap.size ∧ gk < v2.heap.size ∧ w.heap.size ≤ v2.heap.size := by have := HEv2.out.size; omega
                have HDv2 : Hid (v2.rangeAt db (doff + k * 32) (d.map (Value.int .u8))) := range_belowG HDr.out HBv2.out hdb
                have HCv2 : Hid (OwnHv v2 w.heap.size (.slice spc 68 capc) (sigB x k d)) := HCv1.out.below HEv2.out
                have HQv2 : Hid (OwnHv v2 w.heap.size (.slice (some ⟨gp, 0, none⟩) h h) (pathB x h k)) := HQv1.out.below HEv2.out
                refine hK.out _ _ ⟨HSv2.out, HDv2.out⟩ (fun hHeld => ?_)
                clear hK K
                try simp only [Act.put, List.getElem_toArray, List.getElem_cons_succ, List.getElem_cons_zero, List.setIfInBounds_toArray, List.set_cons_zero, List.set_cons_succ]
                refine wpAnyH_ready (rs := [10]) (by kernel_rfl) (by simp) (AllReadyH.cons (o := _) rfl (fun K hK => ?_) AllReadyH.nil)
                have HO := Lib.hid (heap_alloc_new v2 (.cells (sgA zh16 0 0) 38))
                have HQQ : Hid (Below v2.heap.size v2 ((v2.alloc (.cells (sgA zh16 0 0) 38)))) := (below_alloc v2 _)
                have HN := Lib.hid (alloc_size v2 (.cells (sgA zh16 0 0) 38))
                go_simp
                generalize hw : World.alloc v2 _ = v3
                obtain ⟨ga, hgs'⟩ : ∃ g, g = v2.heap.size := ⟨_, rfl⟩
                rw [← hgs']
                have HAv3 : Hid (v3.heap[ga]? = some (.cells (sgA zh16 0 0) 38 (0, 0))) := by rw [hgs', ← hw]; exact HO.out
                have HEv3 : Hid (Below v2.heap.size v2 v3) := by rw [← hw]; exact HQQ.out
                have hav3 : ga < v3.heap.size := by rw [hgs', ← hw]; exact Nat.lt_of_lt_of_eq (Nat.lt_succ_self _) HN.out.symm
                have ha0 : gs < ga ∧ gk < ga ∧ w.heap.size ≤ ga ∧ gb < ga := by omega
                clear hw HO HQQ HN hgs'
                have HSv3 : Hid (v3.heap[gs]? = some (.cells (sgA x (h : Int) (k : Int)) 38 (0, 0))) := (HEv3.out.block _ (by omega)).trans HSv2.out
                have HPv3 : Hid (v3.heap[gk]? = some (.cells (pkA (h : Int) (nodK x h 0)) 25 (0, 0))) := (HEv3.out.block _ (by omega)).trans HPv2.out
                have HBv3 : Hid (Below w.heap.size w v3) := HBv2.out.trans (HEv3.out.mono (by omega))
                have hsv3 : gs < v3.heap.size ∧ gk < v3.heap.size ∧ w.heap.size ≤ v3.heap.size := by have := HEv3.out.size; omega
                have HDv3 : Hid (v3.rangeAt db (doff + k * 32) (d.map (Value.int .u8))) := range_belowG HDr.out HBv3.out hdb
                have HCv3 : Hid (OwnHv v3 w.heap.size (.slice spc 68 capc) (sigB x k d)) := HCv2.out.below HEv3.out
                have HQv3 : Hid (OwnHv v3 w.heap.size (.slice (some ⟨gp, 0, none⟩) h h) (pathB x h k)) := HQv2.out.below HEv3.out
                have HZv3 : Hid (v3.heap[gb]? = some (.cells (siA 0 nilS nilS) 41 (0, 0))) := (HEv3.out.block _ (by omega)).trans HZv2.out
                have hbv3 : gb < v3.heap.size := by have := HEv3.out.size; omega
                refine hK.out _ _ ⟨HSv3.out, HDv3.out⟩ (fun hHeld => ?_)
                clear hK K
                try simp only [Act.put, List.getElem_toArray, List.getElem_cons_succ, List.getElem_cons_zero, List.setIfInBounds_toArray, List.set_cons_zero, List.set_cons_succ]
                refine wpAnyH_ready (rs := [12]) (by kernel_rfl) (by simp) (AllReadyH.cons (o := _) rfl (fun K hK => ?_) AllReadyH.nil)
                rw [if_pos (by rfl)]
                refine wp_store_row 38 _ _ rfl ga (sgA x (h : Int) ((k : Int) + 1)) rfl rfl 38 _ HAv3.out (info_sg HX.out) (by rw [sgA_size zh16_H16, sgA_size HX.out]) (one_sg _ _ _) ?_
                generalize hw : World.setRow v3 _ _ = wy
                have HAwy : Hid (wy.heap[ga]? = some (.cells (sgA x (h : Int) ((k : Int) + 1)) 38 (0, 0))) := by rw [← hw]; exact setRow_heap _ _ _ _ _ _ HAv3.out
                have HZwy : Hid (wy.heap[gb]? = some (.cells (siA 0 nilS nilS) 41 (0, 0))) := by rw [← hw]; exact (setRow_other _ _ _ _ (by omega)).trans HZv3.out
                have HSwy : Hid (wy.heap[gs]? = some (.cells (sgA x (h : Int) (k : Int)) 38 (0, 0))) := by rw [← hw]; exact (setRow_other _ _ _ _ (by omega)).trans HSv3.out
                have HPwy : Hid (wy.heap[gk]? = some (.cells (pkA (h : Int) (nodK x h 0)) 25 (0, 0))) := by rw [← hw]; exact (setRow_other _ _ _ _ (by omega)).trans HPv3.out
                have HBwy : Hid (Below w.heap.size w wy) := by rw [← hw]; exact below_setRow HBv3.out (by omega) _
                have HDwy : Hid (wy.rangeAt db (doff + k * 32) (d.map (Value.int .u8))) := range_belowG HDr.out HBwy.out hdb
                have HCwy : Hid (OwnHv wy w.heap.size (.slice spc 68 capc) (sigB x k d)) := by rw [← hw]; exact HCv3.out.setRow HAv3.out ne_sg _
                have HQwy : Hid (OwnHv wy w.heap.size (.slice (some ⟨gp, 0, none⟩) h h) (pathB x h k)) := by rw [← hw]; exact HQv3.out.setRow HAv3.out ne_sg _
                have hzy : wy.heap.size = v3.heap.size := by rw [← hw]; simp [World.setRow]
                clear hw
                skip
                refine hK.out _ _ ⟨HSwy.out, HDwy.out⟩ (fun hHeld => ?_)
                clear hK K
                try simp only [Act.put, List.getElem_toArray, List.getElem_cons_succ, List.getElem_cons_zero, List.setIfInBounds_toArray, List.set_cons_zero, List.set_cons_succ]
                refine wpAnyH_ready (rs := [13]) (by kernel_rfl) (by simp) (AllReadyH.cons (o := _) rfl (fun K hK => ?_) AllReadyH.nil)
                rw [if_pos (by rfl)]
                refine wp_store_row 41 _ _ rfl gb (siA (k : Int) (.slice spc 68 capc) (.slice (some ⟨gp, 0, none⟩) h h)) rfl rfl 41 _ HZwy.out (info_si _ _ _) rfl (one_si _ _ _ _ _ _ _) ?_
                generalize hw : World.setRow wy _ _ = wx
                have HZwx : Hid (wx.heap[gb]? = some (.cells (siA (k : Int) (.slice spc 68 capc) (.slice (some ⟨gp, 0, none⟩) h h)) 41 (0, 0))) := by rw [← hw]; exact setRow_heap _ _ _ _ _ _ HZwy.out
                have HAwx : Hid (wx.heap[ga]? = some (.cells (sgA x (h : Int) ((k : Int) + 1)) 38 (0, 0))) := by rw [← hw]; exact (setRow_other _ _ _ _ (by omega)).trans HAwy.out
                have HSwx : Hid (wx.heap[gs]? = some (.cells (sgA x (h : Int) (k : Int)) 38 (0, 0))) := by rw [← hw]; exact (setRow_other _ _ _ _ (by omega)).trans HSwy.out
                have HPwx : Hid (wx.heap[gk]? = some (.cells (pkA (h : Int) (nodK x h 0)) 25 (0, 0))) := by rw [← hw]; exact (setRow_other _ _ _ _ (by omega)).trans HPwy.out
                have HBwx : Hid (Below w.heap.size w wx) := by rw [← hw]; exact below_setRow HBwy.out (by omega) _
                have HDwx : Hid (wx.rangeAt db (doff + k * 32) (d.map (Value.int .u8))) := range_belowG HDr.out HBwx.out hdb
                have HCwx : Hid (OwnHv wx w.heap.size (.slice spc 68 capc) (sigB x k d)) := by rw [← hw]; exact HCwy.out.setRow HZwy.out ne_si _
                have HQwx : Hid (OwnHv wx w.heap.size (.slice (some ⟨gp, 0, none⟩) h h) (pathB x h k)) := by rw [← hw]; exact HQwy.out.setRow HZwy.out ne_si _
                have hzx : wx.heap.size = wy.heap.size := by rw [← hw]; simp [World.setRow]
                clear hw
                skip
                refine hK.out _ _ ⟨HSwx.out, HDwx.out⟩ (fun hHeld => ?_)
                clear hK K
                try simp only [Act.put, List.getElem_toArray, List.getElem_cons_succ, List.getElem_cons_zero, List.setIfInBounds_toArray, List.set_cons_zero, List.set_cons_succ]
                refine wpAnyH_take (i := 14) (oi := _) (v := ?v14n15) rfl (by kernel_rfl) (by kernel_rfl) (by kernel_rfl) (fun _ _ _ h => h) (Or.inl ⟨by rfl, ?hy14n15⟩) (by assumption) ?rest14n15
                case hy14n15 =>
                  intro w' hSw
                  go_simp
                  try with_reducible rfl
                try simp only [Act.put, List.getElem_toArray, List.getElem_cons_succ, List.getElem_cons_zero, List.setIfInBounds_toArray, List.set_cons_zero, List.set_cons_succ]
                refine wpAnyH_done (by kernel_rfl) ?_ _
                go_wp2_with fail
                go_meet
                exact ⟨ga, gb, spc, capc, gp, rfl, rfl, rfl, HAwx.out, HZwx.out, HSwx.out, HPwx.out, HCwx.out, HQwx.out, HBwx.out, by omega, by omega⟩
            · have HO := Lib.hid (heap_alloc_new wr (.cells (sgA zh16 0 0) 38))
              have HQQ : Hid (Below wr.heap.size wr (World.drew (wr.alloc (.cells (sgA zh16 0 0) 38)))) := (below_alloc wr _).drew
              have HN := Lib.hid (alloc_size wr (.cells (sgA zh16 0 0) 38))
              go_simp
              generalize hw : World.drew (World.alloc wr _) = v1
              obtain ⟨ga, hgs'⟩ : ∃ g, g = wr.heap.size := ⟨_, rfl⟩
              rw [← hgs']
              have HAv1 : Hid (v1.heap[ga]? = some (.cells (sgA zh16 0 0) 38 (0, 0))) := by rw [hgs', ← hw]; exact HO.out
              have HEv1 : Hid (Below wr.heap.size wr v1) := by rw [← hw]; exact HQQ.out
              have hav1 : ga < v1.heap.size := by rw [hgs', ← hw]; exact Nat.lt_of_lt_of_eq (Nat.lt_succ_self _) HN.out.symm
              have ha0 : gs < ga ∧ gk < ga ∧ w.heap.size ≤ ga := by omega
              clear hw HO HQQ HN hgs'
              have HSv1 : Hid (v1.heap[gs]? = some (.cells (sgA x (h : Int) (k : Int)) 38 (0, 0))) := (HEv1.out.block _ (by omega)).trans HSwr.out
              have HPv1 : Hid (v1.heap[gk]? = some (.cells (pkA (h : Int) (nodK x h 0)) 25 (0, 0))) := (HEv1.out.block _ (by omega)).trans HPwr.out
              have HBv1 : Hid (Below w.heap.size w v1) := HBwr.out.trans (HEv1.out.mono (by omega))
              have hsv1 : gs < v1.heap.size ∧ gk < v1.heap.size ∧ w.heap.size ≤ v1.heap.size := by have := HEv1.out.size; omega
              have HDv1 : Hid (v1.rangeAt db (doff + k * 32) (d.map (Value.int .u8))) := range_belowG HDr.out HBv1.out hdb
              refine hK.out _ _ ⟨HSv1.out, HDv1.out⟩ (fun hHeld => ?_)
              clear hK K
              try simp only [Act.put, List.getElem_toArray, List.getElem_cons_succ, List.getElem_cons_zero, List.setIfInBounds_toArray, List.set_cons_zero, List.set_cons_succ]
              refine wpAnyH_ready (rs := [5, 11]) (by kernel_rfl) (by simp) (AllReadyH.cons (o := _) rfl (fun K hK => ?_) (AllReadyH.cons (o := _) rfl (fun K hK => ?_) AllReadyH.nil))
              · go_simp
                with_reducible refine (HCS.out _ HBv1.out (by have := (HBv1.out).size; omega)).mono ?_
                rintro e v2 ⟨spc, capc, gp, rfl, hc, hq, hb⟩
                have HEv2 : Hid (Below v1.heap.size v1 v2) := hb
                have HCv2 : Hid (OwnHv v2 w.heap.size (.slice spc 68 capc) (sigB x k d)) := hc.base (HBv1.out).size
                have HQv2 : Hid (OwnHv v2 w.heap.size (.slice (some ⟨gp, 0, none⟩) h h) (pathB x h k)) := hq.base (HBv1.out).size
                clear hc hq hb
                have HSv2 : Hid (v2.heap[gs]? = some (.cells (sgA x (h : Int) (k : Int)) 38 (0, 0))) := (HEv2.out.block _ (by omega)).trans HSv1.out
                have HPv2 : Hid (v2.heap[gk]? = some (.cells (pkA (h : Int) (nodK x h 0)) 25 (0, 0))) := (HEv2.out.block _ (by omega)).trans HPv1.out
                have HBv2 : Hid (Below w.heap.size w v2) := HBv1.out.trans (HEv2.out.mono (by omega))
                have hsv2 : gs < v2.heap.size ∧ gk < v2.heap.size ∧ w.heap.size ≤ v2.heap.size := by have := HEv2.out.size; omega
                have HDv2 : Hid (v2.rangeAt db (doff + k * 32) (d.map (Value.int .u8))) := range_belowG HDr.out HBv2.out hdb
                have HAv2 : Hid (v2.heap[ga]? = some (.cells (sgA zh16 0 0) 38 (0, 0))) := (HEv2.out.block _ (by omega)).trans HAv1.out
                have hav2 : ga < v2.heap.size := by have := HEv2.out.size; omega
                go_wp2_with fail
                refine hK.out _ _ ⟨HSv2.out, HDv2.out⟩ (fun hHeld => ?_)
                clear hK K
                try simp only [Act.put, List.getElem_toArray, List.getElem_cons_succ, List.getElem_cons_zero, List.setIfInBounds_toArray, List.set_cons_zero, List.set_cons_succ]
                refine wpAnyH_take (i := 6) (oi := _) (v := ?v6n16) rfl (by kernel_rfl) (by kernel_rfl) (by kernel_rfl) (fun _ _ _ h => h) (Or.inl ⟨by rfl, ?hy6n16⟩) (by assumption) ?rest6n16
                case hy6n16 =>
                  intro w' hSw
                  go_simp
                  try with_reducible rfl
                try simp only [Act.put, List.getElem_toArray, List.getElem_cons_succ, List.getElem_cons_zero, List.setIfInBounds_toArray, List.set_cons_zero, List.set_cons_succ]
                refine wpAnyH_take (i := 7) (oi := _) (v := ?v7n17) rfl (by kernel_rfl) (by kernel_rfl) (by kernel_rfl) (fun _ _ _ h => h) (Or.inl ⟨by rfl, ?hy7n17⟩) (by assumption) ?rest7n17
                case hy7n17 =>
                  intro w' hSw
                  go_simp
                  try with_reducible rfl
                try simp only [Act.put, List.getElem_toArray, List.getElem_cons_succ, List.getElem_cons_zero, List.setIfInBounds_toArray, List.set_cons_zero, List.set_cons_succ]
                refine wpAnyH_take (i := 8) (oi := _) (v := ?v8n18) rfl (by kernel_rfl) (by kernel_rfl) (by kernel_rfl) (fun _ _ _ h => h) (Or.inl ⟨by rfl, ?hy8n18⟩) (by assumption) ?rest8n18
                case hy8n18 =>
                  intro w' hSw
                  go_simp
                  try with_reducible rfl
                try simp only [Act.put, List.getElem_toArray, List.getElem_cons_succ, List.getElem_cons_zero, List.setIfInBounds_toArray, List.set_cons_zero, List.set_cons_succ]
                refine wpAnyH_take (i := 9) (oi := _) (v := ?v9n19) rfl (by kernel_rfl) (by kernel_rfl) (by kernel_rfl) (fun _ _ _ h => h) (Or.inl ⟨by rfl, ?hy9n19⟩) (by assumption) ?rest9n19
                case hy9n19 =>
                  intro w' hSw
                  go_simp
                  try with_reducible rfl
                try simp only [Act.put, List.getElem_toArray, List.getElem_cons_succ, List.getElem_cons_zero, List.setIfInBounds_toArray, List.set_cons_zero, List.set_cons_succ]
                refine wpAnyH_ready (rs := [11]) (by kernel_rfl) (by simp) (AllReadyH.cons (o := _) rfl (fun K hK => ?_) AllReadyH.nil)
                have HO := Lib.hid (heap_alloc_new v2 (.cells (siA 0 nilS nilS) 41))
                have HQQ : Hid (Below v2.heap.size v2 ((v2.alloc (.cells (siA 0 nilS nilS) 41)))) := (below_alloc v2 _)
                have HN := Lib.hid (alloc_size v2 (.cells (siA 0 nilS nilS) 41))
                go_simp
                generalize hw : World.alloc v2 _ = v3
                obtain ⟨gb, hgs'⟩ : ∃ g, g = v2.heap.size := ⟨_, rfl⟩
                rw [← hgs']
                have HZv3 : Hid (v3.heap[gb]? = some (.cells (siA 0 nilS nilS) 41 (0, 0))) := by rw [hgs', ← hw]; exact HO.out
                have HEv3 : Hid (Below v2.heap.size v2 v3) := by rw [← hw]; exact HQQ.out
                have hbv3 : gb < v3.heap.size := by rw [hgs', ← hw]; exact Nat.lt_of_lt_of_eq (Nat.lt_succ_self _) HN.out.symm
                have hb0 : gs < gb ∧ gk < gb ∧ w.heap.size ≤ gb ∧ ga < gb := by omega
                clear hw HO HQQ HN hgs'
                have HSv3 : Hid (v3.heap[gs]? = some (.cells (sgA x (h : Int) (k : Int)) 38 (0, 0))) := (HEv3.out.block _ (by omega)).trans HSv2.out
                have HPv3 : Hid (v3.heap[gk]? = some (.cells (pkA (h : Int) (nodK x h 0)) 25 (0, 0))) := (HEv3.out.block _ (by omega)).trans HPv2.out
                have HBv3 : Hid (Below w.heap.size w v3) := HBv2.out.trans (HEv3.out.mono (by omega))
                have hsv3 : gs < v3.heap.size ∧ gk < v3.heap.size ∧ w.heap.size ≤ v3.heap.size := by have := HEv3.out.size; omega
                have HDv3 : Hid (v3.rangeAt db (doff + k * 32) (d.map (Value.int .u8))) := range_belowG HDr.out HBv3.out hdb
                have HCv3 : Hid (OwnHv v3 w.heap.size (.slice spc 68 capc) (sigB x k d)) := HCv2.out.below HEv3.out
                have HQv3 : Hid (OwnHv v3 w.heap.size (.slice (some ⟨gp, 0, none⟩) h h) (pathB x h k)) := HQv2.out.below HEv3.out
                have HAv3 : Hid (v3.heap[ga]? = some (.cells (sgA zh16 0 0) 38 (0, 0))) := (HEv3.out.block _ (by omega)).trans HAv2.out
                have hav3 : ga < v3.heap.size := by have := HEv3.out.size; omega
                refine hK.out _ _ ⟨HSv3.out, HDv3.out⟩ (fun hHeld => ?_)
                clear hK K
                try simp only [Act.put, List.getElem_toArray, List.getElem_cons_succ, List.getElem_cons_zero, List.setIfInBounds_toArray, List.set_cons_zero, List.set_cons_succ]
                refine wpAnyH_ready (rs := [12]) (by kernel_rfl) (by simp) (AllReadyH.cons (o := _) rfl (fun K hK => ?_) AllReadyH.nil)
                rw [if_pos (by rfl)]
                refine wp_store_row 38 _ _ rfl ga (sgA x (h : Int) ((k : Int) + 1)) rfl rfl 38 _ HAv3.out (info_sg HX.out) (by rw [sgA_size zh16_H16, sgA_size HX.out]) (one_sg _ _ _) ?_
                generalize hw : World.setRow v3 _ _ = wy
                have HAwy : Hid (wy.heap[ga]? = some (.cells (sgA x (h : Int) ((k : Int) + 1)) 38 (0, 0))) := by rw [← hw]; exact setRow_heap _ _ _ _ _ _ HAv3.out
                have HZwy : Hid (wy.heap[gb]? = some (.cells (siA 0 nilS nilS) 41 (0, 0))) := by rw [← hw]; exact (setRow_other _ _ _ _ (by omega)).trans HZv3.out
                have HSwy : Hid (wy.heap[gs]? = some (.cells (sgA x (h : Int) (k : Int)) 38 (0, 0))) := by rw [← hw]; exact (setRow_other _ _ _ _ (by omega)).trans HSv3.out
                have HPwy : Hid (wy.heap[gk]? = some (.cells (pkA (h : Int) (nodK x h 0)) 25 (0, 0))) := by rw [← hw]; exact (setRow_other _ _ _ _ (by omega)).trans HPv3.out
                have HBwy : Hid (Below w.heap.size w wy) := by rw [← hw]; exact below_setRow HBv3.out (by omega) _
                have HDwy : Hid (wy.rangeAt db (doff + k * 32) (d.map (Value.int .u8))) := range_belowG HDr.out HBwy.out hdb
                have HCwy : Hid (OwnHv wy w.heap.size (.slice spc 68 capc) (sigB x k d)) := by rw [← hw]; exact HCv3.out.setRow HAv3.out ne_sg _
                have HQwy : Hid (OwnHv wy w.heap.size (.slice (some ⟨gp, 0, none⟩) h h) (pathB x h k)) := by rw [← hw]; exact HQv3.out.setRow HAv3.out ne_sg _
                have hzy : wy.heap.size = v3.heap.size := by rw [← hw]; simp [World.setRow]
                clear hw
                skip
                refine hK.out _ _ ⟨HSwy.out, HDwy.out⟩ (fun hHeld => ?_)
                clear hK K
                try simp only [Act.put, List.getElem_toArray, List.getElem_cons_succ, List.getElem_cons_zero, List.setIfInBounds_toArray, List.set_cons_zero, List.set_cons_succ]
                refine wpAnyH_ready (rs := [13]) (by kernel_rfl) (by simp) (AllReadyH.cons (o := _) rfl (fun K hK => ?_) AllReadyH.nil)
                rw [if_pos (by rfl)]
                refine wp_store_row 41 _ _ rfl gb (siA (k : Int) (.slice spc 68 capc) (.slice (some ⟨gp, 0, none⟩) h h)) rfl rfl 41 _ HZwy.out (info_si _ _ _) rfl (one_si _ _ _ _ _ _ _) ?_
                generalize hw : World.setRow wy _ _ = wx
                have HZwx : Hid (wx.heap[gb]? = some (.cells (siA (k : Int) (.slice spc 68 capc) (.slice (some ⟨gp, 0, none⟩) h h)) 41 (0, 0))) := by rw [← hw]; exact setRow_heap _ _ _ _ _ _ HZwy.out
                have HAwx : Hid (wx.heap[ga]? = some (.cells (sgA x (h : Int) ((k : Int) + 1)) 38 (0, 0))) := by rw [← hw]; exact (setRow_other _ _ _ _ (by omega)).trans HAwy.out
                have HSwx : Hid (wx.heap[gs]? = some (.cells (sgA x (h : Int) (k : Int)) 38 (0, 0))) := by rw [← hw]; exact (setRow_other _ _ _ _ (by omega)).trans HSwy.out
                have HPwx : Hid (wx.heap[gk]? = some (.cells (pkA (h : Int) (nodK x h 0)) 25 (0, 0))) := by rw [← hw]; exact (setRow_other _ _ _ _ (by omega)).trans HPwy.out
                have HBwx : Hid (Below w.heap.size w wx) := by rw [← hw]; exact below_setRow HBwy.out (by omega) _
                have HDwx : Hid (wx.rangeAt db (doff + k * 32) (d.map (Value.int .u8))) := range_belowG HDr.out HBwx.out hdb
                have HCwx : Hid (OwnHv wx w.heap.size (.slice spc 68 capc) (sigB x k d)) := by rw [← hw]; exact HCwy.out.setRow HZwy.out ne_si _
                have HQwx : Hid (OwnHv wx w.heap.size (.slice (some ⟨gp, 0, none⟩) h h) (pathB x h k)) := by rw [← hw]; exact HQwy.out.setRow HZwy.out ne_si _
                have hzx : wx.heap.size = wy.heap.size := by rw [← hw]; simp [World.setRow]
                clear hw
                skip
                refine hK.out _ _ ⟨HSwx.out, HDwx.out⟩ (fun hHeld => ?_)
                clear hK K
                try simp only [Act.put, List.getElem_toArray, List.getElem_cons_succ, List.getElem_cons_zero, List.setIfInBounds_toArray, List.set_cons_zero, List.set_cons_succ]
                refine wpAnyH_take (i := 14) (oi := _) (v := ?v14n20) rfl (by kernel_rfl) (by kernel_rfl) (by kernel_rfl) (fun _ _ _ h => h) (Or.inl ⟨by rfl, ?hy14n20⟩) (by assumption) ?rest14n20
                case hy14n20 =>
                  intro w' hSw
                  go_simp
                  try with_reducible rfl
                try simp only [Act.put, List.getElem_toArray, List.getElem_cons_succ, List.getElem_cons_zero, List.setIfInBounds_toArray, List.set_cons_zero, List.set_cons_succ]
                refine wpAnyH_done (by kernel_rfl) ?_ _
                go_wp2_with fail
                go_meet
                exact ⟨ga, gb, spc, capc, gp, rfl, rfl, rfl, HAwx.out, HZwx.out, HSwx.out, HPwx.out, HCwx.out, HQwx.out, HBwx.out, by omega, by omega⟩
              · have HO := Lib.hid (heap_alloc_new v1 (.cells (siA 0 nilS nilS) 41))
                have HQQ : Hid (Below v1.heap.size v1 ((v1.alloc (.cells (siA 0 nilS nilS) 41)))) := (below_alloc v1 _)
                have HN := Lib.hid (alloc_size v1 (.cells (siA 0 nilS nilS) 41))
                go_simp
                generalize hw : World.alloc v1 _ = v2
                obtain ⟨gb, hgs'⟩ : ∃ g, g = v1.heap.size := ⟨_, rfl⟩
                rw [← hgs']
                have HZv2 : Hid (v2.heap[gb]? = some (.cells (siA 0 nilS nilS) 41 (0, 0))) := by rw [hgs', ← hw]; exact HO.out
                have HEv2 : Hid (Below v1.heap.size v1 v2) := by rw [← hw]; exact HQQ.out
                have hbv2 : gb < v2.heap.size := by rw [hgs', ← hw]; exact Nat.lt_of_lt_of_eq (Nat.lt_succ_self _) HN.out.symm
                have hb0 : gs < gb ∧ gk < gb ∧ w.heap.size ≤ gb ∧ ga < gb := by omega
                clear hw HO HQQ HN hgs'
                have HSv2 : Hid (v2.heap[gs]? = some (.cells (sgA x (h : Int) (k : Int)) 38 (0, 0))) := (HEv2.out.block _ (by omega)).trans HSv1.out
                have HPv2 : Hid (v2.heap[gk]? = some (.cells (pkA (h : Int) (nodK x h 0)) 25 (0, 0))) := (HEv2.out.block _ (by omega)).trans HPv1.out
                have HBv2 : Hid (Below w.heap.size w v2) := HBv1.out.trans (HEv2.out.mono (by omega))
                have hsv2 : gs < v2.heap.size ∧ gk < v2.heap.size ∧ w.heap.size ≤ v2.heap.size := by have := HEv2.out.size; omega
                have HDv2 : Hid (v2.rangeAt db (doff + k * 32) (d.map (Value.int .u8))) := range_belowG HDr.out HBv2.out hdb
                have HAv2 : Hid (v2.heap[ga]? = some (.cells (sgA zh16 0 0) 38 (0, 0))) := (HEv2.out.block _ (by omega)).trans HAv1.out
                have hav2 : ga < v2.heap.size := by have := HEv2.out.size; omega
                refine hK.out _ _ ⟨HSv2.out, HDv2.out⟩ (fun hHeld => ?_)
                clear hK K
                try simp only [Act.put, List.getElem_toArray, List.getElem_cons_succ, List.getElem_cons_zero, List.setIfInBounds_toArray, List.set_cons_zero, List.set_cons_succ]
                refine wpAnyH_ready (rs := [5]) (by kernel_rfl) (by simp) (AllReadyH.cons (o := _) rfl (fun K hK => ?_) AllReadyH.nil)
                go_simp
                with_reducible refine (HCS.out _ HBv2.out (by have := (HBv2.out).size; omega)).mono ?_
                rintro e v3 ⟨spc, capc, gp, rfl, hc, hq, hb⟩
                have HEv3 : Hid (Below v2.heap.size v2 v3) := hb
                have HCv3 : Hid (OwnHv v3 w.heap.size (.slice spc 68 capc) (sigB x k d)) := hc.base (HBv2.out).size
                have HQv3 : Hid (OwnHv v3 w.heap.size (.slice (some ⟨gp, 0, none⟩) h h) (pathB x h k)) := hq.base (HBv2.out).size
                clear hc hq hb
                have HSv3 : Hid (v3.heap[gs]? = some (.cells (sgA x (h : Int) (k : Int)) 38 (0, 0))) := (HEv3.out.block _ (by omega)).trans HSv2.out
                have HPv3 : Hid (v3.heap[gk]? = some (.cells (pkA (h : Int) (nodK x h 0)) 25 (0, 0))) := (HEv3.out.block _ (by omega)).trans HPv2.out
                have HBv3 : Hid (Below w.heap.size w v3) := HBv2.out.trans (HEv3.out.mono (by omega))
                have hsv3 : gs < v3.heap.size ∧ gk < v3.heap.size ∧ w.heap.size ≤ v3.heap.size := by have := HEv3.out.size; omega
                have HDv3 : Hid (v3.rangeAt db (doff + k * 32) (d.map (Value.int .u8))) := range_belowG HDr.out HBv3.out hdb
                have HAv3 : Hid (v3.heap[ga]? = some (.cells (sgA zh16 0 0) 38 (0, 0))) := (HEv3.out.block _ (by omega)).trans HAv2.out
                have hav3 : ga < v3.heap.size := by have := HEv3.out.size; omega
                have HZv3 : Hid (v3.heap[gb]? = some (.cells (siA 0 nilS nilS) 41 (0, 0))) := (HEv3.out.block _ (by omega)).trans HZv2.out
                have hbv3 : gb < v3.heap.size := by have := HEv3.out.size; omega
                go_wp2_with fail
                refine hK.out _ _ ⟨HSv3.out, HDv3.out⟩ (fun hHeld => ?_)
                clear hK K
                try simp only [Act.put, List.getElem_toArray, List.getElem_cons_succ, List.getElem_cons_zero, List.setIfInBounds_toArray, List.set_cons_zero, List.set_cons_succ]
                refine wpAnyH_take (i := 6) (oi := _) (v := ?v6n21) rfl (by kernel_rfl) (by kernel_rfl) (by kernel_rfl) (fun _ _ _ h => h) (Or.inl ⟨by rfl, ?hy6n21⟩) (by assumption) ?rest6n21
                case hy6n21 =>
                  intro w' hSw
                  go_simp
                  try with_reducible rfl
                try simp only [Act.put, List.getElem_toArray, List.getElem_cons_succ, List.getElem_cons_zero, List.setIfInBounds_toArray, List.set_cons_zero, List.set_cons_succ]
                refine wpAnyH_take (i := 7) (oi := _) (v := ?v7n22) rfl (by kernel_rfl) (by kernel_rfl) (by kernel_rfl) (fun _ _ _ h => h) (Or.inl ⟨by rfl, ?hy7n22⟩) (by assumption) ?rest7n22
                case hy7n22 =>
                  intro w' hSw
                  go_simp
                  try with_reducible rfl
                try simp only [Act.put, List.getElem_toArray, List.getElem_cons_succ, List.getElem_cons_zero, List.setIfInBounds_toArray, List.set_cons_zero, List.set_cons_succ]
                refine wpAnyH_take (i := 8) (oi := _) (v := ?v8n23) rfl (by kernel_rfl) (by kernel_rfl) (by kernel_rfl) (fun _ _ _ h => h) (Or.inl ⟨by rfl, ?hy8n23⟩) (by assumption) ?rest8n23
                case hy8n23 =>
                  intro w' hSw
                  go_simp
                  try with_reducible rfl
                try simp only [Act.put, List.getElem_toArray, List.getElem_cons_succ, List.getElem_cons_zero, List.setIfInBounds_toArray, List.set_cons_zero, List.set_cons_succ]
                refine wpAnyH_take (i := 9) (oi := _) (v := ?v9n24) rfl (by kernel_rfl) (by kernel_rfl) (by kernel_rfl) (fun _ _ _ h => h) (Or.inl ⟨by rfl, ?hy9n24⟩) (by assumption) ?rest9n24
                case hy9n24 =>
                  intro w' hSw
                  go_simp
                  try with_reducible rfl
                try simp only [Act.put, List.getElem_toArray, List.getElem_cons_succ, List.getElem_cons_zero, List.setIfInBounds_toArray, List.set_cons_zero, List.set_cons_succ]
                refine wpAnyH_ready (rs := [12]) (by kernel_rfl) (by simp) (AllReadyH.cons (o := _) rfl (fun K hK => ?_) AllReadyH.nil)
                rw [if_pos (by rfl)]
                refine wp_store_row 38 _ _ rfl ga (sgA x (h : Int) ((k : Int) + 1)) rfl rfl 38 _ HAv3.out (info_sg HX.out) (by rw [sgA_size zh16_H16, sgA_size HX.out]) (one_sg _ _ _) ?_
                generalize hw : World.setRow v3 _ _ = wy
                have HAwy : Hid (wy.heap[ga]? = some (.cells (sgA x (h : Int) ((k : Int) + 1)) 38 (0, 0))) := by rw [← hw]; exact setRow_heap _ _ _ _ _ _ HAv3.out
                have HZwy : Hid (wy.heap[gb]? = some (.cells (siA 0 nilS nilS) 41 (0, 0))) := by rw [← hw]; exact (setRow_other _ _ _ _ (by omega)).trans HZv3.out
                have HSwy : Hid (wy.heap[gs]? = some (.cells (sgA x (h : Int) (k : Int)) 38 (0, 0))) := by rw [← hw]; exact (setRow_other _ _ _ _ (by omega)).trans HSv3.out
                have HPwy : Hid (wy.heap[gk]? = some (.cells (pkA (h : Int) (nodK x h 0)) 25 (0, 0))) := by rw [← hw]; exact (setRow_other _ _ _ _ (by omega)).trans HPv3.out
                have HBwy : Hid (Below w.heap.size w wy) := by rw [← hw]; exact below_setRow HBv3.out (by omega) _
                have HDwy : Hid (wy.rangeAt db (doff + k * 32) (d.map (Value.int .u8))) := range_belowG HDr.out HBwy.out hdb
                have HCwy : Hid (OwnHv wy w.heap.size (.slice spc 68 capc) (sigB x k d)) := by rw [← hw]; exact HCv3.out.setRow HAv3.out ne_sg _
                have HQwy : Hid (OwnHv wy w.heap.size (.slice (some ⟨gp, 0, none⟩) h h) (pathB x h k)) := by rw [← hw]; exact HQv3.out.setRow HAv3.out ne_sg _
                have hzy : wy.heap.size = v3.heap.size := by rw [← hw]; simp [World.setRow]
                clear hw
                skip
                refine hK.out _ _ ⟨HSwy.out, HDwy.out⟩ (fun hHeld => ?_)
                clear hK K
                try simp only [Act.put, List.getElem_toArray, List.getElem_cons_succ, List.getElem_cons_zero, List.setIfInBounds_toArray, List.set_cons_zero, List.set_cons_succ]
                refine wpAnyH_ready (rs := [13]) (by kernel_rfl) (by simp) (AllReadyH.cons (o := _) rfl (fun K hK => ?_) AllReadyH.nil)
                rw [if_pos (by rfl)]
                refine wp_store_row 41 _ _ rfl gb (siA (k : Int) (.slice spc 68 capc) (.slice (some ⟨gp, 0, none⟩) h h)) rfl rfl 41 _ HZwy.out (info_si _ _ _) rfl (one_si _ _ _ _ _ _ _) ?_
                generalize hw : World.setRow wy _ _ = wx
                have HZwx : Hid (wx.heap[gb]? = some (.cells (siA (k : Int) (.slice spc 68 capc) (.slice (some ⟨gp, 0, none⟩) h h)) 41 (0, 0))) := by rw [← hw]; exact setRow_heap _ _ _ _ _ _ HZwy.out
                have HAwx : Hid (wx.heap[ga]? = some (.cells (sgA x (h : Int) ((k : Int) + 1)) 38 (0, 0))) := by rw [← hw]; exact (setRow_other _ _ _ _ (by omega)).trans HAwy.out
                have HSwx : Hid (wx.heap[gs]? = some (.cells (sgA x (h : Int) (k : Int)) 38 (0, 0))) := by rw [← hw]; exact (setRow_other _ _ _ _ (by omega)).trans HSwy.out
                have HPwx : Hid (wx.heap[gk]? = some (.cells (pkA (h : Int) (nodK x h 0)) 25 (0, 0))) := by rw [← hw]; exact (setRow_other _ _ _ _ (by omega)).trans HPwy.out
                have HBwx : Hid (Below w.heap.size w wx) := by rw [← hw]; exact below_setRow HBwy.out (by omega) _
                have HDwx : Hid (wx.rangeAt db (doff + k * 32) (d.map (Value.int .u8))) := range_belowG HDr.out HBwx.out hdb
                have HCwx : Hid (OwnHv wx w.heap.size (.slice spc 68 capc) (sigB x k d)) := by rw [← hw]; exact HCwy.out.setRow HZwy.out ne_si _
                have HQwx : Hid (OwnHv wx w.heap.size (.slice (some ⟨gp, 0, none⟩) h h) (pathB x h k)) := by rw [← hw]; exact HQwy.out.setRow HZwy.out ne_si _
                have hzx : wx.heap.size = wy.heap.size := by rw [← hw]; simp [World.setRow]
                clear hw
                skip
                refine hK.out _ _ ⟨HSwx.out, HDwx.out⟩ (fun hHeld => ?_)
                clear hK K
                try simp only [Act.put, List.getElem_toArray, List.getElem_cons_succ, List.getElem_cons_zero, List.setIfInBounds_toArray, List.set_cons_zero, List.set_cons_succ]
                refine wpAnyH_take (i := 14) (oi := _) (v := ?v14n25) rfl (by kernel_rfl) (by kernel_rfl) (by kernel_rfl) (fun _ _ _ h => h) (Or.inl ⟨by rfl, ?hy14n25⟩) (by assumption) ?rest14n25
                case hy14n25 =>
                  intro w' hSw
                  go_simp
                  try with_reducible rfl
                try simp only [Act.put, List.getElem_toArray, List.getElem_cons_succ, List.getElem_cons_zero, List.setIfInBounds_toArray, List.set_cons_zero, List.set_cons_succ]
                refine wpAnyH_done (by kernel_rfl) ?_ _
                go_wp2_with fail
                go_meet
                exact ⟨ga, gb, spc, capc, gp, rfl, rfl, rfl, HAwx.out, HZwx.out, HSwx.out, HPwx.out, HCwx.out, HQwx.out, HBwx.out, by omega, by omega⟩
            · have HO := Lib.hid (heap_alloc_new wr (.cells (siA 0 nilS nilS) 41))
              have HQQ : Hid (Below wr.heap.size wr (World.drew (wr.alloc (.cells (siA 0 nilS nilS) 41)))) := (below_alloc wr _).drew
              have HN := Lib.hid (alloc_size wr (.cells (siA 0 nilS nilS) 41))
              go_simp
              generalize hw : World.drew (World.alloc wr _) = v1
              obtain ⟨gb, hgs'⟩ : ∃ g, g = wr.heap.size := ⟨_, rfl⟩
              rw [← hgs']
              have HZv1 : Hid (v1.heap[gb]? = some (.cells (siA 0 nilS nilS) 41 (0, 0))) := by rw [hgs', ← hw]; exact HO.out
              have HEv1 : Hid (Below wr.heap.size wr v1) := by rw [← hw]; exact HQQ.out
              have hbv1 : gb < v1.heap.size := by rw [hgs', ← hw]; exact Nat.lt_of_lt_of_eq (Nat.lt_succ_self _) HN.out.symm
              have hb0 : gs < gb ∧ gk < gb ∧ w.heap.size ≤ gb := by omega
              clear hw HO HQQ HN hgs'
              have HSv1 : Hid (v1.heap[gs]? = some (.cells (sgA x (h : Int) (k : Int)) 38 (0, 0))) := (HEv1.out.block _ (by omega)).trans HSwr.out
              have HPv1 : Hid (v1.heap[gk]? = some (.cells (pkA (h : Int) (nodK x h 0)) 25 (0, 0))) := (HEv1.out.block _ (by omega)).trans HPwr.out
              have HBv1 : Hid (Below w.heap.size w v1) := HBwr.out.trans (HEv1.out.mono (by omega))
              have hsv1 : gs < v1.heap.size ∧ gk < v1.heap.size ∧ w.heap.size ≤ v1.heap.size := by have := HEv1.out.size; omega
              have HDv1 : Hid (v1.rangeAt db (doff + k * 32) (d.map (Value.int .u8))) := range_belowG HDr.out HBv1.out hdb
              refine hK.out _ _ ⟨HSv1.out, HDv1.out⟩ (fun hHeld => ?_)
              clear hK K
              try simp only [Act.put, List.getElem_toArray, List.getElem_cons_succ, List.getElem_cons_zero, List.setIfInBounds_toArray, List.set_cons_zero, List.set_cons_succ]
              refine wpAnyH_ready (rs := [5, 10]) (by kernel_rfl) (by simp) (AllReadyH.cons (o := _) rfl (fun K hK => ?_) (AllReadyH.cons (o := _) rfl (fun K hK => ?_) AllReadyH.nil))
              · go_simp
                with_reducible refine (HCS.out _ HBv1.out (by have := (HBv1.out).size; omega)).mono ?_
                rintro e v2 ⟨spc, capc, gp, rfl, hc, hq, hb⟩
                have HEv2 : Hid (Below v1.heap.size v1 v2) := hb
                have HCv2 : Hid (OwnHv v2 w.heap.size (.slice spc 68 capc) (sigB x k d)) := hc.base (HBv1.out).size
                have HQv2 : Hid (OwnHv v2 w.heap.size (.slice (some ⟨gp, 0, none⟩) h h) (pathB x h k)) := hq.base (HBv1.out).size
                clear hc hq hb
                have HSv2 : Hid (v2.heap[gs]? = some (.cells (sgA x (h : Int) (k : Int)) 38 (0, 0))) := (HEv2.out.block _ (by omega)).trans HSv1.out
                have HPv2 : Hid (v2.heap[gk]? = some (.cells (pkA (h : Int) (nodK x h 0)) 25 (0, 0))) := (HEv2.out.block _ (by omega)).trans HPv1.out
                have HBv2 : Hid (Below w.heap.size w v2) := HBv1.out.trans (HEv2.out.mono (by omega))
                have hsv2 : gs < v2.heap.size ∧ gk < v2.heap.size ∧ w.heap.size ≤ v2.heap.size := by have := HEv2.out.size; omega
                have HDv2 : Hid (v2.rangeAt db (doff + k * 32) (d.map (Value.int .u8))) := range_belowG HDr.out HBv2.out hdb
                have HZv2 : Hid (v2.heap[gb]? = some (.cells (siA 0 nilS nilS) 41 (0, 0))) := (HEv2.out.block _ (by omega)).trans HZv1.out
                have hbv2 : gb < v2.heap.size := by have := HEv2.out.size; omega
                go_wp2_with fail
                refine hK.out _ _ ⟨HSv2.out, HDv2.out⟩ (fun hHeld => ?_)
                clear hK K
                try simp only [Act.put, List.getElem_toArray, List.getElem_cons_succ, List.getElem_cons_zero, List.setIfInBounds_toArray, List.set_cons_zero, List.set_cons_succ]
                refine wpAnyH_take (i := 6) (oi := _) (v := ?v6n26) rfl (by kernel_rfl) (by kernel_rfl) (by kernel_rfl) (fun _ _ _ h => h) (Or.inl ⟨by rfl, ?hy6n26⟩) (by assumption) ?rest6n26
                case hy6n26 =>
                  intro w' hSw
                  go_simp
                  try with_reducible rfl
                try simp only [Act.put, List.getElem_toArray, List.getElem_cons_succ, List.getElem_cons_zero, List.setIfInBounds_toArray, List.set_cons_zero, List.set_cons_succ]
                refine wpAnyH_take (i := 7) (oi := _) (v := ?v7n27) rfl (by kernel_rfl) (by kernel_rfl) (by kernel_rfl) (fun _ _ _ h => h) (Or.inl ⟨by rfl, ?hy7n27⟩) (by assumption) ?rest7n27
                case hy7n27 =>
                  intro w' hSw
                  go_simp
                  try with_reducible rfl
                try simp only [Act.put, List.getElem_toArray, List.getElem_cons_succ, List.getElem_cons_zero, List.setIfInBounds_toArray, List.set_cons_zero, List.set_cons_succ]
                refine wpAnyH_take (i := 8) (oi := _) (v := ?v8n28) rfl (by kernel_rfl) (by kernel_rfl) (by kernel_rfl) (fun _ _ _ h => h) (Or.inl ⟨by rfl, ?hy8n28⟩) (by assumption) ?rest8n28
                case hy8n28 =>
                  intro w' hSw
                  go_simp
                  try with_reducible rfl
                try simp only [Act.put, List.getElem_toArray, List.getElem_cons_succ, List.getElem_cons_zero, List.setIfInBounds_toArray, List.set_cons_zero, List.set_cons_succ]
                refine wpAnyH_take (i := 9) (oi := _) (v := ?v9n29) rfl (by kernel_rfl) (by kernel_rfl) (by kernel_rfl) (fun _ _ _ h => h) (Or.inl ⟨by rfl, ?hy9n29⟩) (by assumption) ?rest9n29
                case hy9n29 =>
                  intro w' hSw
                  go_simp
                  try with_reducible rfl
                try simp only [Act.put, List.getElem_toArray, List.getElem_cons_succ, List.getElem_cons_zero, List.setIfInBounds_toArray, List.set_cons_zero, List.set_cons_succ]
                refine wpAnyH_ready (rs := [10]) (by kernel_rfl) (by simp) (AllReadyH.cons (o := _) rfl (fun K hK => ?_) AllReadyH.nil)
                have HO := Lib.hid (heap_alloc_new v2 (.cells (sgA zh16 0 0) 38))
                have HQQ : Hid (Below v2.heap.size v2 ((v2.alloc (.cells (sgA zh16 0 0) 38)))) := (below_alloc v2 _)
                have HN := Lib.hid (alloc_size v2 (.cells (sgA zh16 0 0) 38))
                go_simp
                generalize hw : World.alloc v2 _ = v3
                obtain ⟨ga, hgs'⟩ : ∃ g, g = v2.heap.size := ⟨_, rfl⟩
                rw [← hgs']
                have HAv3 : Hid (v3.heap[ga]? = some (.cells (sgA zh16 0 0) 38 (0, 0))) := by rw [hgs', ← hw]; exact HO.out
                have HEv3 : Hid (Below v2.heap.size v2 v3) := by rw [← hw]; exact HQQ.out
                have hav3 : ga < v3.heap.size := by rw [hgs', ← hw]; exact Nat.lt_of_lt_of_eq (Nat.lt_succ_self _) HN.out.symm
                have ha0 : gs < ga ∧ gk < ga ∧ w.heap.size ≤ ga ∧ gb < ga := by omega
                clear hw HO HQQ HN hgs'
                have HSv3 : Hid (v3.heap[gs]? = some (.cells (sgA x (h : Int) (k : Int)) 38 (0, 0))) := (HEv3.out.block _ (by omega)).trans HSv2.out
                have HPv3 : Hid (v3.heap[gk]? = some (.cells (pkA (h : Int) (nodK x h 0)) 25 (0, 0))) := (HEv3.out.block _ (by omega)).trans HPv2.out
                have HBv3 : Hid (Below w.heap.size w v3) := HBv2.out.trans (HEv3.out.mono (by omega))
                have hsv3 : gs < v3.heap.size ∧ gk < v3.heap.size ∧ w.heap.size ≤ v3.heap.size := by have := HEv3.out.size; omega
                have HDv3 : Hid (v3.rangeAt db (doff + k * 32) (d.map (Value.int .u8))) := range_belowG HDr.out HBv3.out hdb
                have HCv3 : Hid (OwnHv v3 w.heap.size (.slice spc 68 capc) (sigB x k d)) := HCv2.out.below HEv3.out
                have HQv3 : Hid (OwnHv v3 w.heap.size (.slice (some ⟨gp, 0, none⟩) h h) (pathB x h k)) := HQv2.out.below HEv3.out
                have HZv3 : Hid (v3.heap[gb]? = some (.cells (siA 0 nilS nilS) 41 (0, 0))) := (HEv3.out.block _ (by omega)).trans HZv2.out
                have hbv3 : gb < v3.heap.size := by have := HEv3.out.size; omega
                refine hK.out _ _ ⟨HSv3.out, HDv3.out⟩ (fun hHeld => ?_)
                clear hK K
                try simp only [Act.put, List.getElem_toArray, List.getElem_cons_succ, List.getElem_cons_zero, List.setIfInBounds_toArray, List.set_cons_zero, List.set_cons_succ]
                refine wpAnyH_ready (rs := [12]) (by kernel_rfl) (by simp) (AllReadyH.cons (o := _) rfl (fun K hK => ?_) AllReadyH.nil)
                rw [if_pos (by rfl)]
                refine wp_store_row 38 _ _ rfl ga (sgA x (h : Int) ((k : Int) + 1)) rfl rfl 38 _ HAv3.out (info_sg HX.out) (by rw [sgA_size zh16_H16, sgA_size HX.out]) (one_sg _ _ _) ?_
                generalize hw : World.setRow v3 _ _ = wy
                have HAwy : Hid (wy.heap[ga]? = some (.cells (sgA x (h : Int) ((k : Int) + 1)) 38 (0, 0))) := by rw [← hw]; exact setRow_heap _ _ _ _ _ _ HAv3.out
                have HZwy : Hid (wy.heap[gb]? = some (.cells (siA 0 nilS nilS) 41 (0, 0))) := by rw [← hw]; exact (setRow_other _ _ _ _ (by omega)).trans HZv3.out
                have HSwy : Hid (wy.heap[gs]? = some (.cells (sgA x (h : Int) (k : Int)) 38 (0, 0))) := by rw [← hw]; exact (setRow_other _ _ _ _ (by omega)).trans HSv3.out
                have HPwy : Hid (wy.heap[gk]? = some (.cells (pkA (h : Int) (nodK x h 0)) 25 (0, 0))) := by rw [← hw]; exact (setRow_other _ _ _ _ (by omega)).trans HPv3.out
                have HBwy : Hid (Below w.heap.size w wy) := by rw [← hw]; exact below_setRow HBv3.out (by omega) _
                have HDwy : Hid (wy.rangeAt db (doff + k * 32) (d.map (Value.int .u8))) := range_belowG HDr.out HBwy.out hdb
                have HCwy : Hid (OwnHv wy w.heap.size (.slice spc 68 capc) (sigB x k d)) := by rw [← hw]; exact HCv3.out.setRow HAv3.out ne_sg _
                have HQwy : Hid (OwnHv wy w.heap.size (.slice (some ⟨gp, 0, none⟩) h h) (pathB x h k)) := by rw [← hw]; exact HQv3.out.setRow HAv3.out ne_sg _
                have hzy : wy.heap.size = v3.heap.size := by rw [← hw]; simp [World.setRow]
                clear hw
                skip
                refine hK.out _ _ ⟨HSwy.out, HDwy.out⟩ (fun hHeld => ?_)
                clear hK K
                try simp only [Act.put, List.getElem_toArray, List.getElem_cons_succ, List.getElem_cons_zero, List.setIfInBounds_toArray, List.set_cons_zero, List.set_cons_succ]
                refine wpAnyH_ready (rs := [13]) (by kernel_rfl) (by simp) (AllReadyH.cons (o := _) rfl (fun K hK => ?_) AllReadyH.nil)
                rw [if_pos (by rfl)]
                refine wp_store_row 41 _ _ rfl gb (siA (k : Int) (.slice spc 68 capc) (.slice (some ⟨gp, 0, none⟩) h h)) rfl rfl 41 _ HZwy.out (info_si _ _ _) rfl (one_si _ _ _ _ _ _ _) ?_
                generalize hw : World.setRow wy _ _ = wx
                have HZwx : Hid (wx.heap[gb]? = some (.cells (siA (k : Int) (.slice spc 68 capc) (.slice (some ⟨gp, 0, none⟩) h h)) 41 (0, 0))) := by rw [← hw]; exact setRow_heap _ _ _ _ _ _ HZwy.out
                have HAwx : Hid (wx.heap[ga]? = some (.cells (sgA x (h : Int) ((k : Int) + 1)) 38 (0, 0))) := by rw [← hw]; exact (setRow_other _ _ _ _ (by omega)).trans HAwy.out
                have HSwx : Hid (wx.heap[gs]? = some (.cells (sgA x (h : Int) (k : Int)) 38 (0, 0))) := by rw [← hw]; exact (setRow_other _ _ _ _ (by omega)).trans HSwy.out
                have HPwx : Hid (wx.heap[gk]? = some (.cells (pkA (h : Int) (nodK x h 0)) 25 (0, 0))) := by rw [← hw]; exact (setRow_other _ _ _ _ (by omega)).trans HPwy.out
                have HBwx : Hid (Below w.heap.size w wx) := by rw [← hw]; exact below_setRow HBwy.out (by omega) _
                have HDwx : Hid (wx.rangeAt db (doff + k * 32) (d.map (Value.int .u8))) := range_belowG HDr.out HBwx.out hdb
                have HCwx : Hid (OwnHv wx w.heap.size (.slice spc 68 capc) (sigB x k d)) := by rw [← hw]; exact HCwy.out.setRow HZwy.out ne_si _
                have HQwx : Hid (OwnHv wx w.heap.size (.slice (some ⟨gp, 0, none⟩) h h) (pathB x h k)) := by rw [← hw]; exact HQwy.out.setRow HZwy.out ne_si _
                have hzx : wx.heap.size = wy.heap.size := by rw [← hw]; simp [World.setRow]
                clear hw
                skip
                refine hK.out _ _ ⟨HSwx.out, HDwx.out⟩ (fun hHeld => ?_)
                clear hK K
                try simp only [Act.put, List.getElem_toArray, List.getElem_cons_succ, List.getElem_cons_zero, List.setIfInBounds_toArray, List.set_cons_zero, List.set_cons_succ]
                refine wpAnyH_take (i := 14) (oi := _) (v := ?v14n30) rfl (by kernel_rfl) (by kernel_rfl) (by kernel_rfl) (fun _ _ _ h => h) (Or.inl ⟨by rfl, ?hy14n30⟩) (by assumption) ?rest14n30
                case hy14n30 =>
                  intro w' hSw
                  go_simp
                  try with_reducible rfl
                try simp only [Act.put, List.getElem_toArray, List.getElem_cons_succ, List.getElem_cons_zero, List.setIfInBounds_toArray, List.set_cons_zero, List.set_cons_succ]
                refine wpAnyH_done (by kernel_rfl) ?_ _
                go_wp2_with fail
                go_meet
                exact ⟨ga, gb, spc, capc, gp, rfl, rfl, rfl, HAwx.out, HZwx.out, HSwx.out, HPwx.out, HCwx.out, HQwx.out, HBwx.out, by omega, by omega⟩
              · have HO := Lib.hid (heap_alloc_new v1 (.cells (sgA zh16 0 0) 38))
                have HQQ : Hid (Below v1.heap.size v1 ((v1.alloc (.cells (sgA zh16 0 0) 38)))) := (below_alloc v1 _)
                have HN := Lib.hid (alloc_size v1 (.cells (sgA zh16 0 0) 38))
                go_simp
                generalize hw : World.alloc v1 _ = v2
                obtain ⟨ga, hgs'⟩ : ∃ g, g = v1.heap.size := ⟨_, rfl⟩
                rw [← hgs']
                have HAv2 : Hid (v2.heap[ga]? = some (.cells (sgA zh16 0 0) 38 (0, 0))) := by rw [hgs', ← hw]; exact HO.out
                have HEv2 : Hid (Below v1.heap.size v1 v2) := by rw [← hw]; exact HQQ.out
                have hav2 : ga < v2.heap.size := by rw [hgs', ← hw]; exact Nat.lt_of_lt_of_eq (Nat.lt_succ_self _) HN.out.symm
                have ha0 : gs < ga ∧ gk < ga ∧ w.heap.size ≤ ga ∧ gb < ga := by omega
                clear hw HO HQQ HN hgs'
                have HSv2 : Hid (v2.heap[gs]? = some (.cells (sgA x (h : Int) (k : Int)) 38 (0, 0))) := (HEv2.out.block _ (by omega)).trans HSv1.out
                have HPv2 : Hid (v2.heap[gk]? = some (.cells (pkA (h : Int) (nodK x h 0)) 25 (0, 0))) := (HEv2.out.block _ (by omega)).trans HPv1.out
                have HBv2 : Hid (Below w.heap.size w v2) := HBv1.out.trans (HEv2.out.mono (by omega))
                have hsv2 : gs < v2.heap.size ∧ gk < v2.heap.size ∧ w.heap.size ≤ v2.heap.size := by have := HEv2.out.size; omega
                have HDv2 : Hid (v2.rangeAt db (doff + k * 32) (d.map (Value.int .u8))) := range_belowG HDr.out HBv2.out hdb
                have HZv2 : Hid (v2.heap[gb]? = some (.cells (siA 0 nilS nilS) 41 (0, 0))) := (HEv2.out.block _ (by omega)).trans HZv1.out
                have hbv2 : gb < v2.heap.size := by have := HEv2.out.size; omega
                refine hK.out _ _ ⟨HSv2.out, HDv2.out⟩ (fun hHeld => ?_)
                clear hK K
                try simp only [Act.put, List.getElem_toArray, List.getElem_cons_succ, List.getElem_cons_zero, List.setIfInBounds_toArray, List.set_cons_zero, List.set_cons_succ]
                refine wpAnyH_ready (rs := [5]) (by kernel_rfl) (by simp) (AllReadyH.cons (o := _) rfl (fun K hK => ?_) AllReadyH.nil)
                go_simp
                with_reducible refine (HCS.out _ HBv2.out (by have := (HBv2.out).size; omega)).mono ?_
                rintro e v3 ⟨spc, capc, gp, rfl, hc, hq, hb⟩
                have HEv3 : Hid (Below v2.heap.size v2 v3) := hb
                have HCv3 : Hid (OwnHv v3 w.heap.size (.slice spc 68 capc) (sigB x k d)) := hc.base (HBv2.out).size
                have HQv3 : Hid (OwnHv v3 w.heap.size (.slice (some ⟨gp, 0, none⟩) h h) (pathB x h k)) := hq.base (HBv2.out).size
                clear hc hq hb
                have HSv3 : Hid (v3.heap[gs]? = some (.cells (sgA x (h : Int) (k : Int)) 38 (0, 0))) := (HEv3.out.block _ (by omega)).trans HSv2.out
                have HPv3 : Hid (v3.heap[gk]? = some (.cells (pkA (h : Int) (nodK x h 0)) 25 (0, 0))) := (HEv3.out.block _ (by omega)).trans HPv2.out
                have HBv3 : Hid (Below w.heap.size w v3) := HBv2.out.trans (HEv3.out.mono (by omega))
                have hsv3 : gs < v3.heap.size ∧ gk < v3.heap.size ∧ w.heap.size ≤ v3.heap.size := by have := HEv3.out.size; omega
                have HDv3 : Hid (v3.rangeAt db (doff + k * 32) (d.map (Value.int .u8))) := range_belowG HDr.out HBv3.out hdb
                have HAv3 : Hid (v3.heap[ga]? = some (.cells (sgA zh16 0 0) 38 (0, 0))) := (HEv3.out.block _ (by omega)).trans HAv2.out
                have hav3 : ga < v3.heap.size := by have := HEv3.out.size; omega
                have HZv3 : Hid (v3.heap[gb]? = some (.cells (siA 0 nilS nilS) 41 (0, 0))) := (HEv3.out.block _ (by omega)).trans HZv2.out
                have hbv3 : gb < v3.heap.size := by have := HEv3.out.size; omega
                go_wp2_with fail
                refine hK.out _ _ ⟨HSv3.out, HDv3.out⟩ (fun hHeld => ?_)
                clear hK K
                try simp only [Act.put, List.getElem_toArray, List.getElem_cons_succ, List.getElem_cons_zero, List.setIfInBounds_toArray, List.set_cons_zero, List.set_cons_succ]
                refine wpAnyH_take (i := 6) (oi := _) (v := ?v6n31) rfl (by kernel_rfl) (by kernel_rfl) (by kernel_rfl) (fun _ _ _ h => h) (Or.inl ⟨by rfl, ?hy6n31⟩) (by assumption) ?rest6n31
                case hy6n31 =>
                  intro w' hSw
                  go_simp
                  try with_reducible rfl
                try simp only [Act.put, List.getElem_toArray, List.getElem_cons_succ, List.getElem_cons_zero, List.setIfInBounds_toArray, List.set_cons_zero, List.set_cons_succ]
                refine wpAnyH_take (i := 7) (oi := _) (v := ?v7n32) rfl (by kernel_rfl) (by kernel_rfl) (by kernel_rfl) (fun _ _ _ h => h) (Or.inl ⟨by rfl, ?hy7n32⟩) (by assumption) ?rest7n32
                case hy7n32 =>
                  intro w' hSw
                  go_simp
                  try with_reducible rfl
                try simp only [Act.put, List.getElem_toArray, List.getElem_cons_succ, List.getElem_cons_zero, List.setIfInBounds_toArray, List.set_cons_zero, List.set_cons_succ]
                refine wpAnyH_take (i := 8) (oi := _) (v := ?v8n33) rfl (by kernel_rfl) (by kernel_rfl) (by kernel_rfl) (fun _ _ _ h => h) (Or.inl ⟨by rfl, ?hy8n33⟩) (by assumption) ?rest8n33
                case hy8n33 =>
                  intro w' hSw
                  go_simp
                  try with_reducible rfl
                try simp only [Act.put, List.getElem_toArray, List.getElem_cons_succ, List.getElem_cons_zero, List.setIfInBounds_toArray, List.set_cons_zero, List.set_cons_succ]
                refine wpAnyH_take (i := 9) (oi := _) (v := ?v9n34) rfl (by kernel_rfl) (by kernel_rfl) (by kernel_rfl) (fun _ _ _ h => h) (Or.inl ⟨by rfl, ?hy9n34⟩) (by assumption) ?rest9n34
                case hy9n34 =>
                  intro w' hSw
                  go_simp
                  try with_reducible rfl
                try simp only [Act.put, List.getElem_toArray, List.getElem_cons_succ, List.getElem_cons_zero, List.setIfInBounds_toArray, List.set_cons_zero, List.set_cons_succ]
                refine wpAnyH_ready (rs := [12]) (by kernel_rfl) (by simp) (AllReadyH.cons (o := _) rfl (fun K hK => ?_) AllReadyH.nil)
                rw [if_pos (by rfl)]
                refine wp_store_row 38 _ _ rfl ga (sgA x (h : Int) ((k : Int) + 1)) rfl rfl 38 _ HAv3.out (info_sg HX.out) (by rw [sgA_size zh16_H16, sgA_size HX.out]) (one_sg _ _ _) ?_
                generalize hw : World.setRow v3 _ _ = wy
                have HAwy : Hid (wy.heap[ga]? = some (.cells (sgA x (h : Int) ((k : Int) + 1)) 38 (0, 0))) := by rw [← hw]; exact setRow_heap _ _ _ _ _ _ HAv3.out
                have HZwy : Hid (wy.heap[gb]? = some (.cells (siA 0 nilS nilS) 41 (0, 0))) := by rw [← hw]; exact (setRow_other _ _ _ _ (by omega)).trans HZv3.out
                have HSwy : Hid (wy.heap[gs]? = some (.cells (sgA x (h : Int) (k : Int)) 38 (0, 0))) := by rw [← hw]; exact (setRow_other _ _ _ _ (by omega)).trans HSv3.out
                have HPwy : Hid (wy.heap[gk]? = some (.cells (pkA (h : Int) (nodK x h 0)) 25 (0, 0))) := by rw [← hw]; exact (setRow_other _ _ _ _ (by omega)).trans HPv3.out
                have HBwy : Hid (Below w.heap.size w wy) := by rw [← hw]; exact below_setRow HBv3.out (by omega) _
                have HDwy : Hid (wy.rangeAt db (doff + k * 32) (d.map (Value.int .u8))) := range_belowG HDr.out HBwy.out hdb
                have HCwy : Hid (OwnHv wy w.heap.size (.slice spc 68 capc) (sigB x k d)) := by rw [← hw]; exact HCv3.out.setRow HAv3.out ne_sg _
                have HQwy : Hid (OwnHv wy w.heap.size (.slice (some ⟨gp, 0, none⟩) h h) (pathB x h k)) := by rw [← hw]; exact HQv3.out.setRow HAv3.out ne_sg _
                have hzy : wy.heap.size = v3.heap.size := by rw [← hw]; simp [World.setRow]
                clear hw
                skip
                refine hK.out _ _ ⟨HSwy.out, HDwy.out⟩ (fun hHeld => ?_)
                clear hK K
                try simp only [Act.put, List.getElem_toArray, List.getElem_cons_succ, List.getElem_cons_zero, List.setIfInBounds_toArray, List.set_cons_zero, List.set_cons_succ]
                refine wpAnyH_ready (rs := [13]) (by kernel_rfl) (by simp) (AllReadyH.cons (o := _) rfl (fun K hK => ?_) AllReadyH.nil)
                rw [if_pos (by rfl)]
                refine wp_store_row 41 _ _ rfl gb (siA (k : Int) (.slice spc 68 capc) (.slice (some ⟨gp, 0, none⟩) h h)) rfl rfl 41 _ HZwy.out (info_si _ _ _) rfl (one_si _ _ _ _ _ _ _) ?_
                generalize hw : World.setRow wy _ _ = wx
                have HZwx : Hid (wx.heap[gb]? = some (.cells (siA (k : Int) (.slice spc 68 capc) (.slice (some ⟨gp, 0, none⟩) h h)) 41 (0, 0))) := by rw [← hw]; exact setRow_heap _ _ _ _ _ _ HZwy.out
                have HAwx : Hid (wx.heap[ga]? = some (.cells (sgA x (h : Int) ((k : Int) + 1)) 38 (0, 0))) := by rw [← hw]; exact (setRow_other _ _ _ _ (by omega)).trans HAwy.out
                have HSwx : Hid (wx.heap[gs]? = some (.cells (sgA x (h : Int) (k : Int)) 38 (0, 0))) := by rw [← hw]; exact (setRow_other _ _ _ _ (by omega)).trans HSwy.out
                have HPwx : Hid (wx.heap[gk]? = some (.cells (pkA (h : Int) (nodK x h 0)) 25 (0, 0))) := by rw [← hw]; exact (setRow_other _ _ _ _ (by omega)).trans HPwy.out
                have HBwx : Hid (Below w.heap.size w wx) := by rw [← hw]; exact below_setRow HBwy.out (by omega) _
                have HDwx : Hid (wx.rangeAt db (doff + k * 32) (d.map (Value.int .u8))) := range_belowG HDr.out HBwx.out hdb
                have HCwx : Hid (OwnHv wx w.heap.size (.slice spc 68 capc) (sigB x k d)) := by rw [← hw]; exact HCwy.out.setRow HZwy.out ne_si _
                have HQwx : Hid (OwnHv wx w.heap.size (.slice (some ⟨gp, 0, none⟩) h h) (pathB x h k)) := by rw [← hw]; exact HQwy.out.setRow HZwy.out ne_si _
                have hzx : wx.heap.size = wy.heap.size := by rw [← hw]; simp [World.setRow]
                clear hw
                skip
                refine hK.out _ _ ⟨HSwx.out, HDwx.out⟩ (fun hHeld => ?_)
                clear hK K
                try simp only [Act.put, List.getElem_toArray, List.getElem_cons_succ, List.getElem_cons_zero, List.setIfInBounds_toArray, List.set_cons_zero, List.set_cons_succ]
                refine wpAnyH_take (i := 14) (oi := _) (v := ?v14n35) rfl (by kernel_rfl) (by kernel_rfl) (by kernel_rfl) (fun _ _ _ h => h) (Or.inl ⟨by rfl, ?hy14n35⟩) (by assumption) ?rest14n35
                case hy14n35 =>
                  intro w' hSw
                  go_simp
                  try with_reducible rfl
                try simp only [Act.put, List.getElem_toArray, List.getElem_cons_succ, List.getElem_cons_zero, List.setIfInBounds_toArray, List.set_cons_zero, List.set_cons_succ]
                refine wpAnyH_done (by kernel_rfl) ?_ _
                go_wp2_with fail
                go_meet
                exact ⟨ga, gb, spc, capc, gp, rfl, rfl, rfl, HAwx.out, HZwx.out, HSwx.out, HPwx.out, HCwx.out, HQwx.out, HBwx.out, by omega, by omega⟩
        case rest =>
        obtain ⟨ga, gb, spc, capc, gp, rfl, rfl, rfl, HV⟩ := hcut
        clear HCS HDwr
        have c16 := sg_h HX.out HV.out.s
        have hq1 : decide ((k : Int) ≥ wrap64 (2 ^ h)) = false := by rw [wrap_pow h2]; exact decide_eq_false (Int.not_le.2 (Int.ofNat_lt.2 hok))
        go_wp2_with fail
        clear c16 hq1
        have m1 : IntKind.i64.wrap ((k : Int) + 1) = (k : Int) + 1 := IntWalk.i64_in _ (by omega)
        have HSH := Lib.hid (fun w' => (show Calls Tryd.prog 22 #[.agg (pkL h (nodK x h 0)).toArray, .agg (siL k (.slice spc 68 capc) (.slice (some ⟨gp, 0, none⟩) h h)).toArray] w' fun e w'' => e = .returned (.bool (shpB h k 68 h)) ∧ Below w'.heap.size w' w'' from shaped_any h (nodK x h 0) k spc 68 capc (some ⟨gp, 0, none⟩) h h w' HNK.out))
        have HSHT : Hid (shpB (h : Int) (k : Int) 68 h = true) := shp_sign (by omega) hok
        have HVFT : Hid (vfyB (h : Int) (nodK x h 0) d (k : Int) 68 h (sigB x k d) (pathB x h k) = true) := vfy_sign HD32.out (by omega) hok
        have HDc : Hid (wc.rangeAt db (doff + k * 32) (d.map (Value.int .u8))) := range_belowG HDr.out HV.out.b hdb
        have hj := HV.out.j
        have hi2 := HV.out.i
        refine wp_region_held_drew (S := fun w' => w'.heap[gb]? = some (.cells (siA (k : Int) (.slice spc 68 capc) (.slice (some ⟨gp, 0, none⟩) h h)) 41 (0, 0)) ∧ w'.heap[ga]? = some (.cells (sgA x (h : Int) ((k : Int) + 1)) 38 (0, 0)) ∧ w'.heap[gk]? = some (.cells (pkA (h : Int) (nodK x h 0)) 25 (0, 0)) ∧ w'.rangeAt db (doff + k * 32) (d.map (Value.int .u8))) (by kernel_rfl) ⟨HV.out.z, HV.out.a, HV.out.p, HDc.out⟩ (fun hHeld => ?_)
        refine wpAnyH_take (i := 0) (oi := _) (v := ?v0n67) rfl (by kernel_rfl) (by kernel_rfl) (by kernel_rfl) (fun _ _ _ h => h) (Or.inl ⟨by rfl, ?hy0n67⟩) (by assumption) ?rest0n67
        case hy0n67 =>
          intro w' hSw
          go_simp
          try with_reducible rfl
        try simp only [Act.put, List.getElem_toArray, List.getElem_cons_succ, List.getElem_cons_zero, List.setIfInBounds_toArray, List.set_cons_zero, List.set_cons_succ]
        refine wpAnyH_take (i := 1) (oi := _) (v := ?v1n68) rfl (by kernel_rfl) (by kernel_rfl) (by kernel_rfl) (fun _ _ _ h => h) (Or.inl ⟨by rfl, ?hy1n68⟩) (by assumption) ?rest1n68
        case hy1n68 =>
          intro w' hSw
          go_simp
          try with_reducible rfl
        try simp only [Act.put, List.getElem_toArray, List.getElem_cons_succ, List.getElem_cons_zero, List.setIfInBounds_toArray, List.set_cons_zero, List.set_cons_succ]
        refine wpAnyH_take (i := 2) (oi := _) (v := ?v2n69) rfl (by kernel_rfl) (by kernel_rfl) (by kernel_rfl) (fun _ _ _ h => h) (Or.inl ⟨by rfl, ?hy2n69⟩) (by assumption) ?rest2n69
        case hy2n69 =>
          intro w' hSw
          go_simp
          try with_reducible rfl
        try simp only [Act.put, List.getElem_toArray, List.getElem_cons_succ, List.getElem_cons_zero, List.setIfInBounds_toArray, List.set_cons_zero, List.set_cons_succ]
        refine wpAnyH_take (i := 3) (oi := _) (v := ?v3n70) rfl (by kernel_rfl) (by kernel_rfl) (by kernel_rfl) (fun _ _ _ h => h) (Or.inl ⟨by rfl, ?hy3n70⟩) (by assumption) ?rest3n70
        case hy3n70 =>
          intro w' hSw
          go_simp
          try with_reducible rfl
        try simp only [Act.put, List.getElem_toArray, List.getElem_cons_succ, List.getElem_cons_zero, List.setIfInBounds_toArray, List.set_cons_zero, List.set_cons_succ]
        refine wpAnyH_take (i := 4) (oi := _) (v := ?v4n71) rfl (by kernel_rfl) (by kernel_rfl) (by kernel_rfl) (fun _ _ _ h => h) (Or.inl ⟨by rfl, ?hy4n71⟩) (by assumption) ?rest4n71
        case hy4n71 =>
          intro w' hSw
          have c1 := si_l hSw.1
          go_simp
          try with_reducible rfl
        try simp only [Act.put, List.getElem_toArray, List.getElem_cons_succ, List.getElem_cons_zero, List.setIfInBounds_toArray, List.set_cons_zero, List.set_cons_succ]
        refine wpAnyH_take (i := 5) (oi := _) (v := ?v5n72) rfl (by kernel_rfl) (by kernel_rfl) (by kernel_rfl) (fun _ _ _ h => h) (Or.inl ⟨by rfl, ?hy5n72⟩) (by assumption) ?rest5n72
        case hy5n72 =>
          intro w' hSw
          go_simp
          try with_reducible rfl
        try simp only [Act.put, List.getElem_toArray, List.getElem_cons_succ, List.getElem_cons_zero, List.setIfInBounds_toArray, List.set_cons_zero, List.set_cons_succ]
        refine wpAnyH_take (i := 6) (oi := _) (v := ?v6n73) rfl (by kernel_rfl) (by kernel_rfl) (by kernel_rfl) (fun _ _ _ h => h) (Or.inl ⟨by rfl, ?hy6n73⟩) (by assumption) ?rest6n73
        case hy6n73 =>
          intro w' hSw
          go_simp
          try with_reducible rfl
        try simp only [Act.put, List.getElem_toArray, List.getElem_cons_succ, List.getElem_cons_zero, List.setIfInBounds_toArray, List.set_cons_zero, List.set_cons_succ]
        refine wpAnyH_take (i := 7) (oi := _) (v := ?v7n74) rfl (by kernel_rfl) (by kernel_rfl) (by kernel_rfl) (fun _ _ _ h => h) (Or.inl ⟨by rfl, ?hy7n74⟩) (by assumption) ?rest7n74
        case hy7n74 =>
          intro w' hSw
          go_simp
          try with_reducible rfl
        try simp only [Act.put, List.getElem_toArray, List.getElem_cons_succ, List.getElem_cons_zero, List.setIfInBounds_toArray, List.set_cons_zero, List.set_cons_succ]
        refine wpAnyH_take (i := 8) (oi := _) (v := ?v8n75) rfl (by kernel_rfl) (by kernel_rfl) (by kernel_rfl) (fun _ _ _ h => h) (Or.inl ⟨by rfl, ?hy8n75⟩) (by assumption) ?rest8n75
        case hy8n75 =>
          intro w' hSw
          go_simp
          try with_reducible rfl
        try simp only [Act.put, List.getElem_toArray, List.getElem_cons_succ, List.getElem_cons_zero, List.setIfInBounds_toArray, List.set_cons_zero, List.set_cons_succ]
        refine wpAnyH_take (i := 9) (oi := _) (v := ?v9n76) rfl (by kernel_rfl) (by kernel_rfl) (by kernel_rfl) (fun _ _ _ h => h) (Or.inl ⟨by rfl, ?hy9n76⟩) (by assumption) ?rest9n76
        case hy9n76 =>
          intro w' hSw
          go_simp
          try with_reducible rfl
        try simp only [Act.put, List.getElem_toArray, List.getElem_cons_succ, List.getElem_cons_zero, List.setIfInBounds_toArray, List.set_cons_zero, List.set_cons_succ]
        refine wpAnyH_take (i := 10) (oi := _) (v := ?v10n77) rfl (by kernel_rfl) (by kernel_rfl) (by kernel_rfl) (fun _ _ _ h => h) (Or.inl ⟨by rfl, ?hy10n77⟩) (by assumption) ?rest10n77
        case hy10n77 =>
          intro w' hSw
          have c1 := sg_n HX.out hSw.2.1
          go_simp
          try with_reducible rfl
        try simp only [Act.put, List.getElem_toArray, List.getElem_cons_succ, List.getElem_cons_zero, List.setIfInBounds_toArray, List.set_cons_zero, List.set_cons_succ]
        refine wpAnyH_take (i := 11) (oi := _) (v := ?v11n78) rfl (by kernel_rfl) (by kernel_rfl) (by kernel_rfl) (fun _ _ _ h => h) (Or.inl ⟨by rfl, ?hy11n78⟩) (by assumption) ?rest11n78
        case hy11n78 =>
          intro w' hSw
          go_simp
          try with_reducible rfl
        try simp only [Act.put, List.getElem_toArray, List.getElem_cons_succ, List.getElem_cons_zero, List.setIfInBounds_toArray, List.set_cons_zero, List.set_cons_succ]
        refine wpAnyH_take (i := 12) (oi := _) (v := ?v12n79) rfl (by kernel_rfl) (by kernel_rfl) (by kernel_rfl) (fun _ _ _ h => h) (Or.inl ⟨by rfl, ?hy12n79⟩) (by assumption) ?rest12n79
        case hy12n79 =>
          intro w' hSw
          go_simp
          try with_reducible rfl
        try simp only [Act.put, List.getElem_toArray, List.getElem_cons_succ, List.getElem_cons_zero, List.setIfInBounds_toArray, List.set_cons_zero, List.set_cons_succ]
        refine wpAnyH_take (i := 13) (oi := _) (v := ?v13n80) rfl (by kernel_rfl) (by kernel_rfl) (by kernel_rfl) (fun _ _ _ h => h) (Or.inl ⟨by rfl, ?hy13n80⟩) (by assumption) ?rest13n80
        case hy13n80 =>
          intro w' hSw
          go_simp
          try with_reducible rfl
        try simp only [Act.put, List.getElem_toArray, List.getElem_cons_succ, List.getElem_cons_zero, List.setIfInBounds_toArray, List.set_cons_zero, List.set_cons_succ]
        refine wpAnyH_take (i := 14) (oi := _) (v := ?v14n81) rfl (by kernel_rfl) (by kernel_rfl) (by kernel_rfl) (fun _ _ _ h => h) (Or.inl ⟨by rfl, ?hy14n81⟩) (by assumption) ?rest14n81
        case hy14n81 =>
          intro w' hSw
          go_simp
          try with_reducible rfl
        try simp only [Act.put, List.getElem_toArray, List.getElem_cons_succ, List.getElem_cons_zero, List.setIfInBounds_toArray, List.set_cons_zero, List.set_cons_succ]
        refine wpAnyH_take (i := 15) (oi := _) (v := ?v15n82) rfl (by kernel_rfl) (by kernel_rfl) (by kernel_rfl) (fun _ _ _ h => h) (Or.inl ⟨by rfl, ?hy15n82⟩) (by assumption) ?rest15n82
        case hy15n82 =>
          intro w' hSw
          go_simp
          try with_reducible rfl
        try simp only [Act.put, List.getElem_toArray, List.getElem_cons_succ, List.getElem_cons_zero, List.setIfInBounds_toArray, List.set_cons_zero, List.set_cons_succ]
        refine' wpAnyH_take (i := 16) (oi := _) (v := _) rfl (by kernel_rfl) (by kernel_rfl) (by kernel_rfl) (fun _ _ _ h => h) (yieldsIf_load_mid (by rfl) _ _ rfl _ _ rfl _ _ ?hS16n83 Tryd.underlying25 rfl (info_pkL HNK.out)) (by assumption) ?rest16n83
        case hS16n83 =>
          intro w' hSw
          exact row_rngK hSw.2.2.1
        try simp only [Act.put, List.getElem_toArray, List.getElem_cons_succ, List.getElem_cons_zero, List.setIfInBounds_toArray, List.set_cons_zero, List.set_cons_succ]
        refine' wpAnyH_take (i := 17) (oi := _) (v := _) rfl (by kernel_rfl) (by kernel_rfl) (by kernel_rfl) (fun _ _ _ h => h) (yieldsIf_load_mid (by rfl) _ _ rfl _ _ rfl _ _ ?hS17n84 Tryd.underlying41 rfl (info_siL (k : Int) (.slice spc 68 capc) (.slice (some ⟨gp, 0, none⟩) h h))) (by assumption) ?rest17n84
        case hS17n84 =>
          intro w' hSw
          exact row_rngK (L := siL (k : Int) (.slice spc 68 capc) (.slice (some ⟨gp, 0, none⟩) h h)) hSw.1
        try simp only [Act.put, List.getElem_toArray, List.getElem_cons_succ, List.getElem_cons_zero, List.setIfInBounds_toArray, List.set_cons_zero, List.set_cons_succ]
        refine wpAnyH_ready (rs := [18]) (by kernel_rfl) (by simp) (AllReadyH.cons (o := _) rfl (fun K hK => ?_) AllReadyH.nil)
        go_simp
        with_reducible refine (HSH.out _).mono ?_
        rintro e v1 ⟨rfl, hb⟩
        rw [HSHT.out]
        have HEv1 : Hid (Below wc.heap.size wc v1) := (Below.refl _ _).drew.trans hb
        clear hb
        have HZv1 : Hid (v1.heap[gb]? = some (.cells (siA (k : Int) (.slice spc 68 capc) (.slice (some ⟨gp, 0, none⟩) h h)) 41 (0, 0))) := (HEv1.out.block _ (by omega)).trans HV.out.z
        have HAv1 : Hid (v1.heap[ga]? = some (.cells (sgA x (h : Int) ((k : Int) + 1)) 38 (0, 0))) := (HEv1.out.block _ (by omega)).trans HV.out.a
        have HPv1 : Hid (v1.heap[gk]? = some (.cells (pkA (h : Int) (nodK x h 0)) 25 (0, 0))) := (HEv1.out.block _ (by omega)).trans HV.out.p
        have HSv1 : Hid (v1.heap[gs]? = some (.cells (sgA x (h : Int) (k : Int)) 38 (0, 0))) := (HEv1.out.block _ (by omega)).trans HV.out.s
        have HBv1 : Hid (Below w.heap.size w v1) := HV.out.b.trans (HEv1.out.mono (by omega))
        have HDv1 : Hid (v1.rangeAt db (doff + k * 32) (d.map (Value.int .u8))) := range_belowG HDr.out HBv1.out hdb
        have hjv1 : gs < v1.heap.size ∧ gk < v1.heap.size ∧ ga < v1.heap.size ∧ gb < v1.heap.size ∧ w.heap.size ≤ v1.heap.size := by have := HEv1.out.size; omega
        have HVC := Lib.hid (show Calls Tryd.prog 23 #[.agg (pkL h (nodK x h 0)).toArray, .agg (d.map (Value.int .u8)).toArray, .agg (siL k (.slice spc 68 capc) (.slice (some ⟨gp, 0, none⟩) h h)).toArray] v1 fun e w'' => e = .returned (.bool (vfyB h (nodK x h 0) d k 68 h (sigB x k d) (pathB x h k))) ∧ Below v1.heap.size v1 w'' from verify_any h (nodK x h 0) d k spc 68 capc (some ⟨gp, 0, none⟩) h h (sigB x k d) (pathB x h k) v1 HNK.out HD32.out ((HV.out.c.below HEv1.out).hvs (sigB_len _ _ _)) ((HV.out.q.below HEv1.out).hvs (pathB_len _ _ _)) (HK.out.below HBv1.out hk0) (by omega))
        go_wp2_with fail
        refine hK.out _ _ ⟨HZv1.out, HAv1.out, HPv1.out, HDv1.out⟩ (fun hHeld => ?_)
        clear hK K
        try simp only [Act.put, List.getElem_toArray, List.getElem_cons_succ, List.getElem_cons_zero, List.setIfInBounds_toArray, List.set_cons_zero, List.set_cons_succ]
        refine wpAnyH_take (i := 19) (oi := _) (v := ?v19n85) rfl (by kernel_rfl) (by kernel_rfl) (by kernel_rfl) (fun _ _ _ h => h) (Or.inl ⟨by rfl, ?hy19n85⟩) (by assumption) ?rest19n85
        case hy19n85 =>
          intro w' hSw
          go_simp
          try with_reducible rfl
        try simp only [Act.put, List.getElem_toArray, List.getElem_cons_succ, List.getElem_cons_zero, List.setIfInBounds_toArray, List.set_cons_zero, List.set_cons_succ]
        refine wpAnyH_take (i := 20) (oi := _) (v := ?v20n86) rfl (by kernel_rfl) (by kernel_rfl) (by kernel_rfl) (fun _ _ _ h => h) (Or.inl ⟨by rfl, ?hy20n86⟩) (by assumption) ?rest20n86
        case hy20n86 =>
          intro w' hSw
          go_simp
          try with_reducible rfl
        try simp only [Act.put, List.getElem_toArray, List.getElem_cons_succ, List.getElem_cons_zero, List.setIfInBounds_toArray, List.set_cons_zero, List.set_cons_succ]
        refine wpAnyH_take (i := 21) (oi := _) (v := ?v21n87) rfl (by kernel_rfl) (by kernel_rfl) (by kernel_rfl) (fun _ _ _ h => h) (Or.inl ⟨by rfl, ?hy21n87⟩) (by assumption) ?rest21n87
        case hy21n87 =>
          intro w' hSw
          go_simp
          try with_reducible rfl
        try simp only [Act.put, List.getElem_toArray, List.getElem_cons_succ, List.getElem_cons_zero, List.setIfInBounds_toArray, List.set_cons_zero, List.set_cons_succ]
        refine' wpAnyH_take (i := 22) (oi := _) (v := _) rfl (by kernel_rfl) (by kernel_rfl) (by kernel_rfl) (fun _ _ _ h => h) (yieldsIf_load_mid (by rfl) _ _ rfl _ _ rfl _ _ ?hS22n88 Tryd.underlying25 rfl (info_pkL HNK.out)) (by assumption) ?rest22n88
        case hS22n88 =>
          intro w' hSw
          exact row_rngK hSw.2.2.1
        try simp only [Act.put, List.getElem_toArray, List.getElem_cons_succ, List.getElem_cons_zero, List.setIfInBounds_toArray, List.set_cons_zero, List.set_cons_succ]
        refine wpAnyH_take (i := 23) (oi := _) (v := ?v23n89) rfl (by kernel_rfl) (by kernel_rfl) (by kernel_rfl) (fun _ _ _ h => h) (Or.inl ⟨by rfl, ?hy23n89⟩) (by assumption) ?rest23n89
        case hy23n89 =>
          intro w' hSw
          go_simp
          try with_reducible rfl
        try simp only [Act.put, List.getElem_toArray, List.getElem_cons_succ, List.getElem_cons_zero, List.setIfInBounds_toArray, List.set_cons_zero, List.set_cons_succ]
        refine wpAnyH_take (i := 24) (oi := _) (v := ?v24n90) rfl (by kernel_rfl) (by kernel_rfl) (by kernel_rfl) (fun _ _ _ h => h) (Or.inl ⟨by rfl, ?hy24n90⟩) (by assumption) ?rest24n90
        case hy24n90 =>
          intro w' hSw
          go_simp
          try with_reducible rfl
        try simp only [Act.put, List.getElem_toArray, List.getElem_cons_succ, List.getElem_cons_zero, List.setIfInBounds_toArray, List.set_cons_zero, List.set_cons_succ]
        refine wpAnyH_take (i := 25) (oi := _) (v := ?v25n91) rfl (by kernel_rfl) (by kernel_rfl) (by kernel_rfl) (fun _ _ _ h => h) (Or.inl ⟨by rfl, ?hy25n91⟩) (by assumption) ?rest25n91
        case hy25n91 =>
          intro w' hSw
          go_simp
          try with_reducible rfl
        try simp only [Act.put, List.getElem_toArray, List.getElem_cons_succ, List.getElem_cons_zero, List.setIfInBounds_toArray, List.set_cons_zero, List.set_cons_succ]
        refine' wpAnyH_take (i := 26) (oi := _) (v := _) rfl (by kernel_rfl) (by kernel_rfl) (by kernel_rfl) (fun _ _ _ h => h) (yieldsIf_load_mid (by rfl) _ _ rfl _ _ rfl _ _ ?hS26n92 Tryd.underlying32 rfl HID.out) (by assumption) ?rest26n92
        case hS26n92 =>
          intro w' hSw
          exact hSw.2.2.2
        try simp only [Act.put, List.getElem_toArray, List.getElem_cons_succ, List.getElem_cons_zero, List.setIfInBounds_toArray, List.set_cons_zero, List.set_cons_succ]
        refine' wpAnyH_take (i := 27) (oi := _) (v := _) rfl (by kernel_rfl) (by kernel_rfl) (by kernel_rfl) (fun _ _ _ h => h) (yieldsIf_load_mid (by rfl) _ _ rfl _ _ rfl _ _ ?hS27n93 Tryd.underlying41 rfl (info_siL (k : Int) (.slice spc 68 capc) (.slice (some ⟨gp, 0, none⟩) h h))) (by assumption) ?rest27n93
        case hS27n93 =>
          intro w' hSw
          exact row_rngK (L := siL (k : Int) (.slice spc 68 capc) (.slice (some ⟨gp, 0, none⟩) h h)) hSw.1
        try simp only [Act.put, List.getElem_toArray, List.getElem_cons_succ, List.getElem_cons_zero, List.setIfInBounds_toArray, List.set_cons_zero, List.set_cons_succ]
        refine wpAnyH_ready (rs := [28]) (by kernel_rfl) (by simp) (AllReadyH.cons (o := _) rfl (fun K hK => ?_) AllReadyH.nil)
        go_simp
        with_reducible refine (HVC.out).mono ?_
        rintro e v2 ⟨rfl, hb⟩
        rw [HVFT.out]
        have HEv2 : Hid (Below v1.heap.size v1 v2) := hb
        clear hb
        have HZv2 : Hid (v2.heap[gb]? = some (.cells (siA (k : Int) (.slice spc 68 capc) (.slice (some ⟨gp, 0, none⟩) h h)) 41 (0, 0))) := (HEv2.out.block _ (by omega)).trans HZv1.out
        have HAv2 : Hid (v2.heap[ga]? = some (.cells (sgA x (h : Int) ((k : Int) + 1)) 38 (0, 0))) := (HEv2.out.block _ (by omega)).trans HAv1.out
        have HPv2 : Hid (v2.heap[gk]? = some (.cells (pkA (h : Int) (nodK x h 0)) 25 (0, 0))) := (HEv2.out.block _ (by omega)).trans HPv1.out
        have HSv2 : Hid (v2.heap[gs]? = some (.cells (sgA x (h : Int) (k : Int)) 38 (0, 0))) := (HEv2.out.block _ (by omega)).trans HSv1.out
        have HBv2 : Hid (Below w.heap.size w v2) := HBv1.out.trans (HEv2.out.mono (by omega))
        have HDv2 : Hid (v2.rangeAt db (doff + k * 32) (d.map (Value.int .u8))) := range_belowG HDr.out HBv2.out hdb
        have hjv2 : gs < v2.heap.size ∧ gk < v2.heap.size ∧ ga < v2.heap.size ∧ gb < v2.heap.size ∧ w.heap.size ≤ v2.heap.size := by have := HEv2.out.size; omega
        go_wp2_with fail
        refine hK.out _ _ ⟨HZv2.out, HAv2.out, HPv2.out, HDv2.out⟩ (fun hHeld => ?_)
        clear hK K
        try simp only [Act.put, List.getElem_toArray, List.getElem_cons_succ, List.getElem_cons_zero, List.setIfInBounds_toArray, List.set_cons_zero, List.set_cons_succ]
        refine wpAnyH_take (i := 29) (oi := _) (v := ?v29n94) rfl (by kernel_rfl) (by kernel_rfl) (by kernel_rfl) (fun _ _ _ h => h) (Or.inl ⟨by rfl, ?hy29n94⟩) (by assumption) ?rest29n94
        case hy29n94 =>
          intro w' hSw
          go_simp
          try with_reducible rfl
        try simp only [Act.put, List.getElem_toArray, List.getElem_cons_succ, List.getElem_cons_zero, List.setIfInBounds_toArray, List.set_cons_zero, List.set_cons_succ]
        refine wpAnyH_take (i := 30) (oi := _) (v := ?v30n95) rfl (by kernel_rfl) (by kernel_rfl) (by kernel_rfl) (fun _ _ _ h => h) (Or.inl ⟨by rfl, ?hy30n95⟩) (by assumption) ?rest30n95
        case hy30n95 =>
          intro w' hSw
          go_simp
          try with_reducible rfl
        try simp only [Act.put, List.getElem_toArray, List.getElem_cons_succ, List.getElem_cons_zero, List.setIfInBounds_toArray, List.set_cons_zero, List.set_cons_succ]
        refine wpAnyH_done (by kernel_rfl) ?_ _
        go_wp2_with (first
          | (refine wpList_load_row rfl 38 _ rfl ga rfl 38 _ (0, 0) _ HAv2.out Tryd.underlying38 rfl (info_sg HX.out) ?_)
          | (refine wpList_store_row rfl 38 _ _ rfl gs _ rfl rfl 38 _ HSv2.out (info_sg HX.out) (by rw [sgA_size HX.out, sgA_size HX.out]) (one_sg _ _ _) ?_; generalize hw : World.setRow v2 _ _ = v3; have HSv3 : Hid (v3.heap[gs]? = some (.cells (sgA x (h : Int) ((k : Int) + 1)) 38 (0, 0))) := (by rw [← hw]; exact setRow_heap _ _ _ _ _ _ HSv2.out); have HPv3 : Hid (v3.heap[gk]? = some (.cells (pkA (h : Int) (nodK x h 0)) 25 (0, 0))) := (by rw [← hw]; exact (setRow_other _ _ _ _ (by omega)).trans HPv2.out); have HBv3 : Hid (Below w.heap.size w v3) := (by rw [← hw]; exact below_setRow HBv2.out (by omega) _); have hgv3 : gk < v3.heap.size := (by rw [← hw]; simp [World.setRow]; omega); clear hw))
        have HML : Hid (((min (k + 1) (2 ^ h) : Nat) : Int) = (k : Int) + 1) := by show _ = _; rw [Nat.min_eq_left (by omega)]; omega
        go_roundw
        case rel => exact ⟨k + 1, by omega, by go_num, by rw [HML.out]; exact HSv3.out, HPv3.out, HBv3.out, hgv3⟩
        case measure => simp [intOf]; omega
      · obtain ⟨N, hNe⟩ : ∃ N : Nat, 2 ^ h = N := ⟨_, rfl⟩
        have HNE := Lib.hid hNe
        have HSwr : Hid (wr.heap[gs]? = some (.cells (sgA x (h : Int) (N : Int)) 38 (0, 0))) := by have h3 := HSR.out; rw [Nat.min_eq_right (by omega), hNe] at h3; exact h3
        have hkN : N ≤ k := by omega
        clear HSR hNe
        have HCS := Lib.hid (fun w' => (show Calls Tryd.prog 19 #[.agg (sgL x h (N : Int)).toArray, .agg (d.map (Value.int .u8)).toArray] w' fun e w'' => e = .returned (.tuple #[.agg (sgA zh16 0 0), .agg (siA 0 nilS nilS), .int .i64 13]) ∧ Below w'.heap.size w' w'' from sign_exh x h (N : Int) d w' HX.out HD32.out (by omega) (by unfold lvN; rw [HNE.out]; exact Int.le_refl _)))
        go_upto_region 8 with (fail)
        go_cut [11, 12, 13] (fun s11 s12 s13 wx => ∃ (ga gb : Nat), s11 = .pointer (some ⟨ga, 0, none⟩) ∧ s12 = .pointer (some ⟨gb, 0, none⟩) ∧ s13 = .int .i64 13 ∧ Hid (VNo w x h N gs gk ga wx))
        case first =>
          as_aux_lemma =>
            refine wp_region_held_drew (S := fun w' => w'.heap[gs]? = some (.cells (sgA x (h : Int) (N : Int)) 38 (0, 0)) ∧ w'.rangeAt db (doff + k * 32) (d.map (Value.int .u8))) (by kernel_rfl) ⟨HSwr.out, HDwr.out⟩ (fun hHeld => ?_)
            refine' wpAnyH_take (i := 0) (oi := _) (v := _) rfl (by kernel_rfl) (by kernel_rfl) (by kernel_rfl) (fun _ _ _ h => h) (yieldsIf_load_mid (by rfl) _ _ rfl _ _ rfl _ _ ?hS0n36 Tryd.underlying38 rfl (info_sgL HX.out)) (by assumption) ?rest0n36
            case hS0n36 =>
              intro w' hSw
              exact row_rngK hSw.1
            try simp only [Act.put, List.getElem_toArray, List.getElem_cons_succ, List.getElem_cons_zero, List.setIfInBounds_toArray, List.set_cons_zero, List.set_cons_succ]
            refine wpAnyH_take (i := 1) (oi := _) (v := ?v1n37) rfl (by kernel_rfl) (by kernel_rfl) (by kernel_rfl) (fun _ _ _ h => h) (Or.inl ⟨by rfl, ?hy1n37⟩) (by assumption) ?rest1n37
            case hy1n37 =>
              intro w' hSw
              go_simp
              try with_reducible rfl
            try simp only [Act.put, List.getElem_toArray, List.getElem_cons_succ, List.getElem_cons_zero, List.setIfInBounds_toArray, List.set_cons_zero, List.set_cons_succ]
            refine wpAnyH_take (i := 2) (oi := _) (v := ?v2n38) rfl (by kernel_rfl) (by kernel_rfl) (by kernel_rfl) (fun _ _ _ h => h) (Or.inl ⟨by rfl, ?hy2n38⟩) (by assumption) ?rest2n38
            case hy2n38 =>
              intro w' hSw
              go_simp
              try with_reducible rfl
            try simp only [Act.put, List.getElem_toArray, List.getElem_cons_succ, List.getElem_cons_zero, List.setIfInBounds_toArray, List.set_cons_zero, List.set_cons_succ]
            refine wpAnyH_take (i := 3) (oi := _) (v := ?v3n39) rfl (by kernel_rfl) (by kernel_rfl) (by kernel_rfl) (fun _ _ _ h => h) (Or.inl ⟨by rfl, ?hy3n39⟩) (by assumption) ?rest3n39
            case hy3n39 =>
              intro w' hSw
              go_simp
              try with_reducible rfl
            try simp only [Act.put, List.getElem_toArray, List.getElem_cons_succ, List.getElem_cons_zero, List.setIfInBounds_toArray, List.set_cons_zero, List.set_cons_succ]
            refine' wpAnyH_take (i := 4) (oi := _) (v := _) rfl (by kernel_rfl) (by kernel_rfl) (by kernel_rfl) (fun _ _ _ h => h) (yieldsIf_load_mid (by rfl) _ _ rfl _ _ rfl _ _ ?hS4n40 Tryd.underlying32 rfl HID.out) (by assumption) ?rest4n40
            case hS4n40 =>
              intro w' hSw
              exact hSw.2
            try simp only [Act.put, List.getElem_toArray, List.getElem_cons_succ, List.getElem_cons_zero, List.setIfInBounds_toArray, List.set_cons_zero, List.set_cons_succ]
            refine wpAnyH_ready (rs := [5, 10, 11]) (by kernel_rfl) (by simp) (AllReadyH.cons (o := _) rfl (fun K hK => ?_) (AllReadyH.cons (o := _) rfl (fun K hK => ?_) (AllReadyH.cons (o := _) rfl (fun K hK => ?_) AllReadyH.nil)))
            · go_simp
              with_reducible refine (HCS.out _).mono ?_
              rintro e v1 ⟨rfl, hb⟩
              have HEv1 : Hid (Below wr.heap.size wr v1) := (Below.refl _ _).drew.trans hb
              clear hb
              have HSv1 : Hid (v1.heap[gs]? = some (.cells (sgA x (h : Int) (N : Int)) 38 (0, 0))) := (HEv1.out.block _ (by omega)).trans HSwr.out
              have HPv1 : Hid (v1.heap[gk]? = some (.cells (pkA (h : Int) (nodK x h 0)) 25 (0, 0))) := (HEv1.out.block _ (by omega)).trans HPwr.out
              have HBv1 : Hid (Below w.heap.size w v1) := HBwr.out.trans (HEv1.out.mono (by omega))
              have hsv1 : gs < v1.heap.size ∧ gk < v1.heap.size ∧ w.heap.size ≤ v1.heap.size := by have := HEv1.out.size; omega
              have HDv1 : Hid (v1.rangeAt db (doff + k * 32) (d.map (Value.int .u8))) := range_belowG HDr.out HBv1.out hdb
              go_wp2_with fail
              refine hK.out _ _ ⟨HSv1.out, HDv1.out⟩ (fun hHeld => ?_)
              clear hK K
              try simp only [Act.put, List.getElem_toArray, List.getElem_cons_succ, List.getElem_cons_zero, List.setIfInBounds_toArray, List.set_cons_zero, List.set_cons_succ]
              refine wpAnyH_take (i := 6) (oi := _) (v := ?v6n41) rfl (by kernel_rfl) (by kernel_rfl) (by kernel_rfl) (fun _ _ _ h => h) (Or.inl ⟨by rfl, ?hy6n41⟩) (by assumption) ?rest6n41
              case hy6n41 =>
                intro w' hSw
                go_simp
                try with_reducible rfl
              try simp only [Act.put, List.getElem_toArray, List.getElem_cons_succ, List.getElem_cons_zero, List.setIfInBounds_toArray, List.set_cons_zero, List.set_cons_succ]
              refine wpAnyH_take (i := 7) (oi := _) (v := ?v7n42) rfl (by kernel_rfl) (by kernel_rfl) (by kernel_rfl) (fun _ _ _ h => h) (Or.inl ⟨by rfl, ?hy7n42⟩) (by assumption) ?rest7n42
              case hy7n42 =>
                intro w' hSw
                go_simp
                try with_reducible rfl
              try simp only [Act.put, List.getElem_toArray, List.getElem_cons_succ, List.getElem_cons_zero, List.setIfInBounds_toArray, List.set_cons_zero, List.set_cons_succ]
              refine wpAnyH_take (i := 8) (oi := _) (v := ?v8n43) rfl (by kernel_rfl) (by kernel_rfl) (by kernel_rfl) (fun _ _ _ h => h) (Or.inl ⟨by rfl, ?hy8n43⟩) (by assumption) ?rest8n43
              case hy8n43 =>
                intro w' hSw
                go_simp
                try with_reducible rfl
              try simp only [Act.put, List.getElem_toArray, List.getElem_cons_succ, List.getElem_cons_zero, List.setIfInBounds_toArray, List.set_cons_zero, List.set_cons_succ]
              refine wpAnyH_take (i := 9) (oi := _) (v := ?v9n44) rfl (by kernel_rfl) (by kernel_rfl) (by kernel_rfl) (fun _ _ _ h => h) (Or.inl ⟨by rfl, ?hy9n44⟩) (by assumption) ?rest9n44
              case hy9n44 =>
                intro w' hSw
                go_simp
                try with_reducible rfl
              try simp only [Act.put, List.getElem_toArray, List.getElem_cons_succ, List.getElem_cons_zero, List.setIfInBounds_toArray, List.set_cons_zero, List.set_cons_succ]
              refine wpAnyH_ready (rs := [10, 11]) (by kernel_rfl) (by simp) (AllReadyH.cons (o := _) rfl (fun K hK => ?_) (AllReadyH.cons (o := _) rfl (fun K hK => ?_) AllReadyH.nil))
              · have HO := Lib.hid (heap_alloc_new v1 (.cells (sgA zh16 0 0) 38))
                have HQQ : Hid (Below v1.heap.size v1 ((v1.alloc (.cells (sgA zh16 0 0) 38)))) := (below_alloc v1 _)
                have HN := Lib.hid (alloc_size v1 (.cells (sgA zh16 0 0) 38))
                go_simp
                generalize hw : World.alloc v1 _ = v2
                obtain ⟨ga, hgs'⟩ : ∃ g, g = v1.heap.size := ⟨_, rfl⟩
                rw [← hgs']
                have HAv2 : Hid (v2.heap[ga]? = some (.cells (sgA zh16 0 0) 38 (0, 0))) := by rw [hgs', ← hw]; exact HO.out
                have HEv2 : Hid (Below v1.heap.size v1 v2) := by rw [← hw]; exact HQQ.out
                have hav2 : ga < v2.heap.size := by rw [hgs', ← hw]; exact Nat.lt_of_lt_of_eq (Nat.lt_succ_self _) HN.out.symm
                have ha0 : gs < ga ∧ gk < ga ∧ w.heap.size ≤ ga := by omega
                clear hw HO HQQ HN hgs'
                have HSv2 : Hid (v2.heap[gs]? = some (.cells (sgA x (h : Int) (N : Int)) 38 (0, 0))) := (HEv2.out.block _ (by omega)).trans HSv1.out
                have HPv2 : Hid (v2.heap[gk]? = some (.cells (pkA (h : Int) (nodK x h 0)) 25 (0, 0))) := (HEv2.out.block _ (by omega)).trans HPv1.out
                have HBv2 : Hid (Below w.heap.size w v2) := HBv1.out.trans (HEv2.out.mono (by omega))
                have hsv2 : gs < v2.heap.size ∧ gk < v2.heap.size ∧ w.heap.size ≤ v2.heap.size := by have := HEv2.out.size; omega
                have HDv2 : Hid (v2.rangeAt db (doff + k * 32) (d.map (Value.int .u8))) := range_belowG HDr.out HBv2.out hdb
                refine hK.out _ _ ⟨HSv2.out, HDv2.out⟩ (fun hHeld => ?_)
                clear hK K
                try simp only [Act.put, List.getElem_toArray, List.getElem_cons_succ, List.getElem_cons_zero, List.setIfInBounds_toArray, List.set_cons_zero, List.set_cons_succ]
                refine wpAnyH_ready (rs := [11]) (by kernel_rfl) (by simp) (AllReadyH.cons (o := _) rfl (fun K hK => ?_) AllReadyH.nil)
                have HO := Lib.hid (heap_alloc_new v2 (.cells (siA 0 nilS nilS) 41))
                have HQQ : Hid (Below v2.heap.size v2 ((v2.alloc (.cells (siA 0 nilS nilS) 41)))) := (below_alloc v2 _)
                have HN := Lib.hid (alloc_size v2 (.cells (siA 0 nilS nilS) 41))
                go_simp
                generalize hw : World.alloc v2 _ = v3
                obtain ⟨gb, hgs'⟩ : ∃ g, g = v2.heap.size := ⟨_, rfl⟩
                rw [← hgs']
                have HZv3 : Hid (v3.heap[gb]? = some (.cells (siA 0 nilS nilS) 41 (0, 0))) := by rw [hgs', ← hw]; exact HO.out
                have HEv3 : Hid (Below v2.heap.size v2 v3) := by rw [← hw]; exact HQQ.out
                have hbv3 : gb < v3.heap.size := by rw [hgs', ← hw]; exact Nat.lt_of_lt_of_eq (Nat.lt_succ_self _) HN.out.symm
                have hb0 : gs < gb ∧ gk < gb ∧ w.heap.size ≤ gb ∧ ga < gb := by omega
                clear hw HO HQQ HN hgs'
                have HSv3 : Hid (v3.heap[gs]? = some (.cells (sgA x (h : Int) (N : Int)) 38 (0, 0))) := (HEv3.out.block _ (by omega)).trans HSv2.out
                have HPv3 : Hid (v3.heap[gk]? = some (.cells (pkA (h : Int) (nodK x h 0)) 25 (0, 0))) := (HEv3.out.block _ (by omega)).trans HPv2.out
                have HBv3 : Hid (Below w.heap.size w v3) := HBv2.out.trans (HEv3.out.mono (by omega))
                have hsv3 : gs < v3.heap.size ∧ gk < v3.heap.size ∧ w.heap.size ≤ v3.heap.size := by have := HEv3.out.size; omega
                have HDv3 : Hid (v3.rangeAt db (doff + k * 32) (d.map (Value.int .u8))) := range_belowG HDr.out HBv3.out hdb
                have HAv3 : Hid (v3.heap[ga]? = some (.cells (sgA zh16 0 0) 38 (0, 0))) := (HEv3.out.block _ (by omega)).trans HAv2.out
                have hav3 : ga < v3.heap.size := by have := HEv3.out.size; omega
                refine hK.out _ _ ⟨HSv3.out, HDv3.out⟩ (fun hHeld => ?_)
                clear hK K
                try simp only [Act.put, List.getElem_toArray, List.getElem_cons_succ, List.getElem_cons_zero, List.setIfInBounds_toArray, List.set_cons_zero, List.set_cons_succ]
                refine wpAnyH_ready (rs := [12]) (by kernel_rfl) (by simp) (AllReadyH.cons (o := _) rfl (fun K hK => ?_) AllReadyH.nil)
                rw [if_pos (by rfl)]
                refine wp_store_row 38 _ _ rfl ga (sgA zh16 0 0) rfl rfl 38 _ HAv3.out (info_sg zh16_H16) rfl (one_sg _ _ _) ?_
                generalize hw : World.setRow v3 _ _ = wy
                have HAwy : Hid (wy.heap[ga]? = some (.cells (sgA zh16 0 0) 38 (0, 0))) := by rw [← hw]; exact setRow_heap _ _ _ _ _ _ HAv3.out
                have HZwy : Hid (wy.heap[gb]? = some (.cells (siA 0 nilS nilS) 41 (0, 0))) := by rw [← hw]; exact (setRow_other _ _ _ _ (by omega)).trans HZv3.out
                have HSwy : Hid (wy.heap[gs]? = some (.cells (sgA x (h : Int) (N : Int)) 38 (0, 0))) := by rw [← hw]; exact (setRow_other _ _ _ _ (by omega)).trans HSv3.out
                have HPwy : Hid (wy.heap[gk]? = some (.cells (pkA (h : Int) (nodK x h 0)) 25 (0, 0))) := by rw [← hw]; exact (setRow_other _ _ _ _ (by omega)).trans HPv3.out
                have HBwy : Hid (Below w.heap.size w wy) := by rw [← hw]; exact below_setRow HBv3.out (by omega) _
                have HDwy : Hid (wy.rangeAt db (doff + k * 32) (d.map (Value.int .u8))) := range_belowG HDr.out HBwy.out hdb
                have hzy : wy.heap.size = v3.heap.size := by rw [← hw]; simp [World.setRow]
                clear hw
                skip
                refine hK.out _ _ ⟨HSwy.out, HDwy.out⟩ (fun hHeld => ?_)
                clear hK K
                try simp only [Act.put, List.getElem_toArray, List.getElem_cons_succ, List.getElem_cons_zero, List.setIfInBounds_toArray, List.set_cons_zero, List.set_cons_succ]
                refine wpAnyH_ready (rs := [13]) (by kernel_rfl) (by simp) (AllReadyH.cons (o := _) rfl (fun K hK => ?_) AllReadyH.nil)
                rw [if_pos (by rfl)]
                refine wp_store_row 41 _ _ rfl gb (siA 0 nilS nilS) rfl rfl 41 _ HZwy.out (info_si _ _ _) rfl (one_si _ _ _ _ _ _ _) ?_
                generalize hw : World.setRow wy _ _ = wx
                have HZwx : Hid (wx.heap[gb]? = some (.cells (siA 0 nilS nilS) 41 (0, 0))) := by rw [← hw]; exact setRow_heap _ _ _ _ _ _ HZwy.out
                have HAwx : Hid (wx.heap[ga]? = some (.cells (sgA zh16 0 0) 38 (0, 0))) := by rw [← hw]; exact (setRow_other _ _ _ _ (by omega)).trans HAwy.out
                have HSwx : Hid (wx.heap[gs]? = some (.cells (sgA x (h : Int) (N : Int)) 38 (0, 0))) := by rw [← hw]; exact (setRow_other _ _ _ _ (by omega)).trans HSwy.out
                have HPwx : Hid (wx.heap[gk]? = some (.cells (pkA (h : Int) (nodK x h 0)) 25 (0, 0))) := by rw [← hw]; exact (setRow_other _ _ _ _ (by omega)).trans HPwy.out
                have HBwx : Hid (Below w.heap.size w wx) := by rw [← hw]; exact below_setRow HBwy.out (by omega) _
                have HDwx : Hid (wx.rangeAt db (doff + k * 32) (d.map (Value.int .u8))) := range_belowG HDr.out HBwx.out hdb
                have hzx : wx.heap.size = wy.heap.size := by rw [← hw]; simp [World.setRow]
                clear hw
                skip
                refine hK.out _ _ ⟨HSwx.out, HDwx.out⟩ (fun hHeld => ?_)
                clear hK K
                try simp only [Act.put, List.getElem_toArray, List.getElem_cons_succ, List.getElem_cons_zero, List.setIfInBounds_toArray, List.set_cons_zero, List.set_cons_succ]
                refine wpAnyH_take (i := 14) (oi := _) (v := ?v14n45) rfl (by kernel_rfl) (by kernel_rfl) (by kernel_rfl) (fun _ _ _ h => h) (Or.inl ⟨by rfl, ?hy14n45⟩) (by assumption) ?rest14n45
                case hy14n45 =>
                  intro w' hSw
                  go_simp
                  try with_reducible rfl
                try simp only [Act.put, List.getElem_toArray, List.getElem_cons_succ, List.getElem_cons_zero, List.setIfInBounds_toArray, List.set_cons_zero, List.set_cons_succ]
                refine wpAnyH_done (by kernel_rfl) ?_ _
                go_wp2_with fail
                go_meet
                exact ⟨ga, gb, rfl, rfl, rfl, HAwx.out, HSwx.out, HPwx.out, HBwx.out, by omega⟩
              · have HO := Lib.hid (heap_alloc_new v1 (.cells (siA 0 nilS nilS) 41))
                have HQQ : Hid (Below v1.heap.size v1 ((v1.alloc (.cells (siA 0 nilS nilS) 41)))) := (below_alloc v1 _)
                have HN := Lib.hid (alloc_size v1 (.cells (siA 0 nilS nilS) 41))
                go_simp
                generalize hw : World.alloc v1 _ = v2
                obtain ⟨gb, hgs'⟩ : ∃ g, g = v1.heap.size := ⟨_, rfl⟩
                rw [← hgs']
                have HZv2 : Hid (v2.heap[gb]? = some (.cells (siA 0 nilS nilS) 41 (0, 0))) := by rw [hgs', ← hw]; exact HO.out
                have HEv2 : Hid (Below v1.heap.size v1 v2) := by rw [← hw]; exact HQQ.out
                have hbv2 : gb < v2.heap.size := by rw [hgs', ← hw]; exact Nat.lt_of_lt_of_eq (Nat.lt_succ_self _) HN.out.symm
                have hb0 : gs < gb ∧ gk < gb ∧ w.heap.size ≤ gb := by omega
                clear hw HO HQQ HN hgs'
                have HSv2 : Hid (v2.heap[gs]? = some (.cells (sgA x (h : Int) (N : Int)) 38 (0, 0))) := (HEv2.out.block _ (by omega)).trans HSv1.out
                have HPv2 : Hid (v2.heap[gk]? = some (.cells (pkA (h : Int) (nodK x h 0)) 25 (0, 0))) := (HEv2.out.block _ (by omega)).trans HPv1.out
                have HBv2 : Hid (Below w.heap.size w v2) := HBv1.out.trans (HEv2.out.mono (by omega))
                have hsv2 : gs < v2.heap.size ∧ gk < v2.heap.size ∧ w.heap.size ≤ v2.heap.size := by have := HEv2.out.size; omega
                have HDv2 : Hid (v2.rangeAt db (doff + k * 32) (d.map (Value.int .u8))) := range_belowG HDr.out HBv2.out hdb
                refine hK.out _ _ ⟨HSv2.out, HDv2.out⟩ (fun hHeld => ?_)
                clear hK K
                try simp only [Act.put, List.getElem_toArray, List.getElem_cons_succ, List.getElem_cons_zero, List.setIfInBounds_toArray, List.set_cons_zero, List.set_cons_succ]
                refine wpAnyH_ready (rs := [10]) (by kernel_rfl) (by simp) (AllReadyH.cons (o := _) rfl (fun K hK => ?_) AllReadyH.nil)
                have HO := Lib.hid (heap_alloc_new v2 (.cells (sgA zh16 0 0) 38))
                have HQQ : Hid (Below v2.heap.size v2 ((v2.alloc (.cells (sgA zh16 0 0) 38)))) := (below_alloc v2 _)
                have HN := Lib.hid (alloc_size v2 (.cells (sgA zh16 0 0) 38))
                go_simp
                generalize hw : World.alloc v2 _ = v3
                obtain ⟨ga, hgs'⟩ : ∃ g, g = v2.heap.size := ⟨_, rfl⟩
                rw [← hgs']
                have HAv3 : Hid (v3.heap[ga]? = some (.cells (sgA zh16 0 0) 38 (0, 0))) := by rw [hgs', ← hw]; exact HO.out
                have HEv3 : Hid (Below v2.heap.size v2 v3) := by rw [← hw]; exact HQQ.out
                have hav3 : ga < v3.heap.size := by rw [hgs', ← hw]; exact Nat.lt_of_lt_of_eq (Nat.lt_succ_self _) HN.out.symm
                have ha0 : gs < ga ∧ gk < ga ∧ w.heap.size ≤ ga ∧ gb < ga := by omega
                clear hw HO HQQ HN hgs'
                have HSv3 : Hid (v3.heap[gs]? = some (.cells (sgA x (h : Int) (N : Int)) 38 (0, 0))) := (HEv3.out.block _ (by omega)).trans HSv2.out
                have HPv3 : Hid (v3.heap[gk]? = some (.cells (pkA (h : Int) (nodK x h 0)) 25 (0, 0))) := (HEv3.out.block _ (by omega)).trans HPv2.out
                have HBv3 : Hid (Below w.heap.size w v3) := HBv2.out.trans (HEv3.out.mono (by omega))
                have hsv3 : gs < v3.heap.size ∧ gk < v3.heap.size ∧ w.heap.size ≤ v3.heap.size := by have := HEv3.out.size; omega
                have HDv3 : Hid (v3.rangeAt db (doff + k * 32) (d.map (Value.int .u8))) := range_belowG HDr.out HBv3.out hdb
                have HZv3 : Hid (v3.heap[gb]? = some (.cells (siA 0 nilS nilS) 41 (0, 0))) := (HEv3.out.block _ (by omega)).trans HZv2.out
                have hbv3 : gb < v3.heap.size := by have := HEv3.out.size; omega
                refine hK.out _ _ ⟨HSv3.out, HDv3.out⟩ (fun hHeld => ?_)
                clear hK K
                try simp only [Act.put, List.getElem_toArray, List.getElem_cons_succ, List.getElem_cons_zero, List.setIfInBounds_toArray, List.set_cons_zero, List.set_cons_succ]
                refine wpAnyH_ready (rs := [12]) (by kernel_rfl) (by simp) (AllReadyH.cons (o := _) rfl (fun K hK => ?_) AllReadyH.nil)
                rw [if_pos (by rfl)]
                refine wp_store_row 38 _ _ rfl ga (sgA zh16 0 0) rfl rfl 38 _ HAv3.out (info_sg zh16_H16) rfl (one_sg _ _ _) ?_
                generalize hw : World.setRow v3 _ _ = wy
                have HAwy : Hid (wy.heap[ga]? = some (.cells (sgA zh16 0 0) 38 (0, 0))) := by rw [← hw]; exact setRow_heap _ _ _ _ _ _ HAv3.out
                have HZwy : Hid (wy.heap[gb]? = some (.cells (siA 0 nilS nilS) 41 (0, 0))) := by rw [← hw]; exact (setRow_other _ _ _ _ (by omega)).trans HZv3.out
                have HSwy : Hid (wy.heap[gs]? = some (.cells (sgA x (h : Int) (N : Int)) 38 (0, 0))) := by rw [← hw]; exact (setRow_other _ _ _ _ (by omega)).trans HSv3.out
                have HPwy : Hid (wy.heap[gk]? = some (.cells (pkA (h : Int) (nodK x h 0)) 25 (0, 0))) := by rw [← hw]; exact (setRow_other _ _ _ _ (by omega)).trans HPv3.out
                have HBwy : Hid (Below w.heap.size w wy) := by rw [← hw]; exact below_setRow HBv3.out (by omega) _
                have HDwy : Hid (wy.rangeAt db (doff + k * 32) (d.map (Value.int .u8))) := range_belowG HDr.out HBwy.out hdb
                have hzy : wy.heap.size = v3.heap.size := by rw [← hw]; simp [World.setRow]
                clear hw
                skip
                refine hK.out _ _ ⟨HSwy.out, HDwy.out⟩ (fun hHeld => ?_)
                clear hK K
                try simp only [Act.put, List.getElem_toArray, List.getElem_cons_succ, List.getElem_cons_zero, List.setIfInBounds_toArray, List.set_cons_zero, List.set_cons_succ]
                refine wpAnyH_ready (rs := [13]) (by kernel_rfl) (by simp) (AllReadyH.cons (o := _) rfl (fun K hK => ?_) AllReadyH.nil)
                rw [if_pos (by rfl)]
                refine wp_store_row 41 _ _ rfl gb (siA 0 nilS nilS) rfl rfl 41 _ HZwy.out (info_si _ _ _) rfl (one_si _ _ _ _ _ _ _) ?_
                generalize hw : World.setRow wy _ _ = wx
                have HZwx : Hid (wx.heap[gb]? = some (.cells (siA 0 nilS nilS) 41 (0, 0))) := by rw [← hw]; exact setRow_heap _ _ _ _ _ _ HZwy.out
                have HAwx : Hid (wx.heap[ga]? = some (.cells (sgA zh16 0 0) 38 (0, 0))) := by rw [← hw]; exact (setRow_other _ _ _ _ (by omega)).trans HAwy.out
                have HSwx : Hid (wx.heap[gs]? = some (.cells (sgA x (h : Int) (N : Int)) 38 (0, 0))) := by rw [← hw]; exact (setRow_other _ _ _ _ (by omega)).trans HSwy.out
                have HPwx : Hid (wx.heap[gk]? = some (.cells (pkA (h : Int) (nodK x h 0)) 25 (0, 0))) := by rw [← hw]; exact (setRow_other _ _ _ _ (by omega)).trans HPwy.out
                have HBwx : Hid (Below w.heap.size w wx) := by rw [← hw]; exact below_setRow HBwy.out (by omega) _
                have HDwx : Hid (wx.rangeAt db (doff + k * 32) (d.map (Value.int .u8))) := range_belowG HDr.out HBwx.out hdb
                have hzx : wx.heap.size = wy.heap.size := by rw [← hw]; simp [World.setRow]
                clear hw
                skip
                refine hK.out _ _ ⟨HSwx.out, HDwx.out⟩ (fun hHeld => ?_)
                clear hK K
                try simp only [Act.put, List.getElem_toArray, List.getElem_cons_succ, List.getElem_cons_zero, List.setIfInBounds_toArray, List.set_cons_zero, List.set_cons_succ]
                refine wpAnyH_take (i := 14) (oi := _) (v := ?v14n46) rfl (by kernel_rfl) (by kernel_rfl) (by kernel_rfl) (fun _ _ _ h => h) (Or.inl ⟨by rfl, ?hy14n46⟩) (by assumption) ?rest14n46
                case hy14n46 =>
                  intro w' hSw
                  go_simp
                  try with_reducible rfl
                try simp only [Act.put, List.getElem_toArray, List.getElem_cons_succ, List.getElem_cons_zero, List.setIfInBounds_toArray, List.set_cons_zero, List.set_cons_succ]
                refine wpAnyH_done (by kernel_rfl) ?_ _
                go_wp2_with fail
                go_meet
                exact ⟨ga, gb, rfl, rfl, rfl, HAwx.out, HSwx.out, HPwx.out, HBwx.out, by omega⟩
            · have HO := Lib.hid (heap_alloc_new wr (.cells (sgA zh16 0 0) 38))
              have HQQ : Hid (Below wr.heap.size wr (World.drew (wr.alloc (.cells (sgA zh16 0 0) 38)))) := (below_alloc wr _).drew
              have HN := Lib.hid (alloc_size wr (.cells (sgA zh16 0 0) 38))
              go_simp
              generalize hw : World.drew (World.alloc wr _) = v1
              obtain ⟨ga, hgs'⟩ : ∃ g, g = wr.heap.size := ⟨_, rfl⟩
              rw [← hgs']
              have HAv1 : Hid (v1.heap[ga]? = some (.cells (sgA zh16 0 0) 38 (0, 0))) := by rw [hgs', ← hw]; exact HO.out
              have HEv1 : Hid (Below wr.heap.size wr v1) := by rw [← hw]; exact HQQ.out
              have hav1 : ga < v1.heap.size := by rw [hgs', ← hw]; exact Nat.lt_of_lt_of_eq (Nat.lt_succ_self _) HN.out.symm
              have ha0 : gs < ga ∧ gk < ga ∧ w.heap.size ≤ ga := by omega
              clear hw HO HQQ HN hgs'
              have HSv1 : Hid (v1.heap[gs]? = some (.cells (sgA x (h : Int) (N : Int)) 38 (0, 0))) := (HEv1.out.block _ (by omega)).trans HSwr.out
              have HPv1 : Hid (v1.heap[gk]? = some (.cells (pkA (h : Int) (nodK x h 0)) 25 (0, 0))) := (HEv1.out.block _ (by omega)).trans HPwr.out
              have HBv1 : Hid (Below w.heap.size w v1) := HBwr.out.trans (HEv1.out.mono (by omega))
              have hsv1 : gs < v1.heap.size ∧ gk < v1.heap.size ∧ w.heap.size ≤ v1.heap.size := by have := HEv1.out.size; omega
              have HDv1 : Hid (v1.rangeAt db (doff + k * 32) (d.map (Value.int .u8))) := range_belowG HDr.out HBv1.out hdb
              refine hK.out _ _ ⟨HSv1.out, HDv1.out⟩ (fun hHeld => ?_)
              clear hK K
              try simp only [Act.put, List.getElem_toArray, List.getElem_cons_succ, List.getElem_cons_zero, List.setIfInBounds_toArray, List.set_cons_zero, List.set_cons_succ]
              refine wpAnyH_ready (rs := [5, 11]) (by kernel_rfl) (by simp) (AllReadyH.cons (o := _) rfl (fun K hK => ?_) (AllReadyH.cons (o := _) rfl (fun K hK => ?_) AllReadyH.nil))
              · go_simp
                with_reducible refine (HCS.out _).mono ?_
                rintro e v2 ⟨rfl, hb⟩
                have HEv2 : Hid (Below v1.heap.size v1 v2) := hb
                clear hb
                have HSv2 : Hid (v2.heap[gs]? = some (.cells (sgA x (h : Int) (N : Int)) 38 (0, 0))) := (HEv2.out.block _ (by omega)).trans HSv1.out
                have HPv2 : Hid (v2.heap[gk]? = some (.cells (pkA (h : Int) (nodK x h 0)) 25 (0, 0))) := (HEv2.out.block _ (by omega)).trans HPv1.out
                have HBv2 : Hid (Below w.heap.size w v2) := HBv1.out.trans (HEv2.out.mono (by omega))
                have hsv2 : gs < v2.heap.size ∧ gk < v2.heap.size ∧ w.heap.size ≤ v2.heap.size := by have := HEv2.out.size; omega
                have HDv2 : Hid (v2.rangeAt db (doff + k * 32) (d.map (Value.int .u8))) := range_belowG HDr.out HBv2.out hdb
                have HAv2 : Hid (v2.heap[ga]? = some (.cells (sgA zh16 0 0) 38 (0, 0))) := (HEv2.out.block _ (by omega)).trans HAv1.out
                have hav2 : ga < v2.heap.size := by have := HEv2.out.size; omega
                go_wp2_with fail
                refine hK.out _ _ ⟨HSv2.out, HDv2.out⟩ (fun hHeld => ?_)
                clear hK K
                try simp only [Act.put, List.getElem_toArray, List.getElem_cons_succ, List.getElem_cons_zero, List.setIfInBounds_toArray, List.set_cons_zero, List.set_cons_succ]
                refine wpAnyH_take (i := 6) (oi := _) (v := ?v6n47) rfl (by kernel_rfl) (by kernel_rfl) (by kernel_rfl) (fun _ _ _ h => h) (Or.inl ⟨by rfl, ?hy6n47⟩) (by assumption) ?rest6n47
                case hy6n47 =>
                  intro w' hSw
                  go_simp
                  try with_reducible rfl
                try simp only [Act.put, List.getElem_toArray, List.getElem_cons_succ, List.getElem_cons_zero, List.setIfInBounds_toArray, List.set_cons_zero, List.set_cons_succ]
                refine wpAnyH_take (i := 7) (oi := _) (v := ?v7n48) rfl (by kernel_rfl) (by kernel_rfl) (by kernel_rfl) (fun _ _ _ h => h) (Or.inl ⟨by rfl, ?hy7n48⟩) (by assumption) ?rest7n48
                case hy7n48 =>
                  intro w' hSw
                  go_simp
                  try with_reducible rfl
                try simp only [Act.put, List.getElem_toArray, List.getElem_cons_succ, List.getElem_cons_zero, List.setIfInBounds_toArray, List.set_cons_zero, List.set_cons_succ]
                refine wpAnyH_take (i := 8) (oi := _) (v := ?v8n49) rfl (by kernel_rfl) (by kernel_rfl) (by kernel_rfl) (fun _ _ _ h => h) (Or.inl ⟨by rfl, ?hy8n49⟩) (by assumption) ?rest8n49
                case hy8n49 =>
                  intro w' hSw
                  go_simp
                  try with_reducible rfl
                try simp only [Act.put, List.getElem_toArray, List.getElem_cons_succ, List.getElem_cons_zero, List.setIfInBounds_toArray, List.set_cons_zero, List.set_cons_succ]
                refine wpAnyH_take (i := 9) (oi := _) (v := ?v9n50) rfl (by kernel_rfl) (by kernel_rfl) (by kernel_rfl) (fun _ _ _ h => h) (Or.inl ⟨by rfl, ?hy9n50⟩) (by assumption) ?rest9n50
                case hy9n50 =>
                  intro w' hSw
                  go_simp
                  try with_reducible rfl
                try simp only [Act.put, List.getElem_toArray, List.getElem_cons_succ, List.getElem_cons_zero, List.setIfInBounds_toArray, List.set_cons_zero, List.set_cons_succ]
                refine wpAnyH_ready (rs := [11]) (by kernel_rfl) (by simp) (AllReadyH.cons (o := _) rfl (fun K hK => ?_) AllReadyH.nil)
                have HO := Lib.hid (heap_alloc_new v2 (.cells (siA 0 nilS nilS) 41))
                have HQQ : Hid (Below v2.heap.size v2 ((v2.alloc (.cells (siA 0 nilS nilS) 41)))) := (below_alloc v2 _)
                have HN := Lib.hid (alloc_size v2 (.cells (siA 0 nilS nilS) 41))
                go_simp
                generalize hw : World.alloc v2 _ = v3
                obtain ⟨gb, hgs'⟩ : ∃ g, g = v2.heap.size := ⟨_, rfl⟩
                rw [← hgs']
                have HZv3 : Hid (v3.heap[gb]? = some (.cells (siA 0 nilS nilS) 41 (0, 0))) := by rw [hgs', ← hw]; exact HO.out
                have HEv3 : Hid (Below v2.heap.size v2 v3) := by rw [← hw]; exact HQQ.out
                have hbv3 : gb < v3.heap.size := by rw [hgs', ← hw]; exact Nat.lt_of_lt_of_eq (Nat.lt_succ_self _) HN.out.symm
                have hb0 : gs < gb ∧ gk < gb ∧ w.heap.size ≤ gb ∧ ga < gb := by omega
                clear hw HO HQQ HN hgs'
                have HSv3 : Hid (v3.heap[gs]? = some (.cells (sgA x (h : Int) (N : Int)) 38 (0, 0))) := (HEv3.out.block _ (by omega)).trans HSv2.out
                have HPv3 : Hid (v3.heap[gk]? = some (.cells (pkA (h : Int) (nodK x h 0)) 25 (0, 0))) := (HEv3.out.block _ (by omega)).trans HPv2.out
                have HBv3 : Hid (Below w.heap.size w v3) := HBv2.out.trans (HEv3.out.mono (by omega))
                have hsv3 : gs < v3.heap.size ∧ gk < v3.heap.size ∧ w.heap.size ≤ v3.heap.size := by have := HEv3.out.size; omega
                have HDv3 : Hid (v3.rangeAt db (doff + k * 32) (d.map (Value.int .u8))) := range_belowG HDr.out HBv3.out hdb
                have HAv3 : Hid (v3.heap[ga]? = some (.cells (sgA zh16 0 0) 38 (0, 0))) := (HEv3.out.block _ (by omega)).trans HAv2.out
                have hav3 : ga < v3.heap.size := by have := HEv3.out.size; omega
                refine hK.out _ _ ⟨HSv3.out, HDv3.out⟩ (fun hHeld => ?_)
                clear hK K
                try simp only [Act.put, List.getElem_toArray, List.getElem_cons_succ, List.getElem_cons_zero, List.setIfInBounds_toArray, List.set_cons_zero, List.set_cons_succ]
                refine wpAnyH_ready (rs := [12]) (by kernel_rfl) (by simp) (AllReadyH.cons (o := _) rfl (fun K hK => ?_) AllReadyH.nil)
                rw [if_pos (by rfl)]
                refine wp_store_row 38 _ _ rfl ga (sgA zh16 0 0) rfl rfl 38 _ HAv3.out (info_sg zh16_H16) rfl (one_sg _ _ _) ?_
                generalize hw : World.setRow v3 _ _ = wy
                have HAwy : Hid (wy.heap[ga]? = some (.cells (sgA zh16 0 0) 38 (0, 0))) := by rw [← hw]; exact setRow_heap _ _ _ _ _ _ HAv3.out
                have HZwy : Hid (wy.heap[gb]? = some (.cells (siA 0 nilS nilS) 41 (0, 0))) := by rw [← hw]; exact (setRow_other _ _ _ _ (by omega)).trans HZv3.out
                have HSwy : Hid (wy.heap[gs]? = some (.cells (sgA x (h : Int) (N : Int)) 38 (0, 0))) := by rw [← hw]; exact (setRow_other _ _ _ _ (by omega)).trans HSv3.out
                have HPwy : Hid (wy.heap[gk]? = some (.cells (pkA (h : Int) (nodK x h 0)) 25 (0, 0))) := by rw [← hw]; exact (setRow_other _ _ _ _ (by omega)).trans HPv3.out
                have HBwy : Hid (Below w.heap.size w wy) := by rw [← hw]; exact below_setRow HBv3.out (by omega) _
                have HDwy : Hid (wy.rangeAt db (doff + k * 32) (d.map (Value.int .u8))) := range_belowG HDr.out HBwy.out hdb
                have hzy : wy.heap.size = v3.heap.size := by rw [← hw]; simp [World.setRow]
                clear hw
                skip
                refine hK.out _ _ ⟨HSwy.out, HDwy.out⟩ (fun hHeld => ?_)
                clear hK K
                try simp only [Act.put, List.getElem_toArray, List.getElem_cons_succ, List.getElem_cons_zero, List.setIfInBounds_toArray, List.set_cons_zero, List.set_cons_succ]
                refine wpAnyH_ready (rs := [13]) (by kernel_rfl) (by simp) (AllReadyH.cons (o := _) rfl (fun K hK => ?_) AllReadyH.nil)
                rw [if_pos (by rfl)]
                refine wp_store_row 41 _ _ rfl gb (siA 0 nilS nilS) rfl rfl 41 _ HZwy.out (info_si _ _ _) rfl (one_si _ _ _ _ _ _ _) ?_
                generalize hw : World.setRow wy _ _ = wx
                have HZwx : Hid (wx.heap[gb]? = some (.cells (siA 0 nilS nilS) 41 (0, 0))) := by rw [← hw]; exact setRow_heap _ _ _ _ _ _ HZwy.out
                have HAwx : Hid (wx.heap[ga]? = some (.cells (sgA zh16 0 0) 38 (0, 0))) := by rw [← hw]; exact (setRow_other _ _ _ _ (by omega)).trans HAwy.out
                have HSwx : Hid (wx.heap[gs]? = some (.cells (sgA x (h : Int) (N : Int)) 38 (0, 0))) := by rw [← hw]; exact (setRow_other _ _ _ _ (by omega)).trans HSwy.out
                have HPwx : Hid (wx.heap[gk]? = some (.cells (pkA (h : Int) (nodK x h 0)) 25 (0, 0))) := by rw [← hw]; exact (setRow_other _ _ _ _ (by omega)).trans HPwy.out
                have HBwx : Hid (Below w.heap.size w wx) := by rw [← hw]; exact below_setRow HBwy.out (by omega) _
                have HDwx : Hid (wx.rangeAt db (doff + k * 32) (d.map (Value.int .u8))) := range_belowG HDr.out HBwx.out hdb
                have hzx : wx.heap.size = wy.heap.size := by rw [← hw]; simp [World.setRow]
                clear hw
                skip
                refine hK.out _ _ ⟨HSwx.out, HDwx.out⟩ (fun hHeld => ?_)
                clear hK K
                try simp only [Act.put, List.getElem_toArray, List.getElem_cons_succ, List.getElem_cons_zero, List.setIfInBounds_toArray, List.set_cons_zero, List.set_cons_succ]
                refine wpAnyH_take (i := 14) (oi := _) (v := ?v14n51) rfl (by kernel_rfl) (by kernel_rfl) (by kernel_rfl) (fun _ _ _ h => h) (Or.inl ⟨by rfl, ?hy14n51⟩) (by assumption) ?rest14n51
                case hy14n51 =>
                  intro w' hSw
                  go_simp
                  try with_reducible rfl
                try simp only [Act.put, List.getElem_toArray, List.getElem_cons_succ, List.getElem_cons_zero, List.setIfInBounds_toArray, List.set_cons_zero, List.set_cons_succ]
                refine wpAnyH_done (by kernel_rfl) ?_ _
                go_wp2_with fail
                go_meet
                exact ⟨ga, gb, rfl, rfl, rfl, HAwx.out, HSwx.out, HPwx.out, HBwx.out, by omega⟩
              · have HO := Lib.hid (heap_alloc_new v1 (.cells (siA 0 nilS nilS) 41))
                have HQQ : Hid (Below v1.heap.size v1 ((v1.alloc (.cells (siA 0 nilS nilS) 41)))) := (below_alloc v1 _)
                have HN := Lib.hid (alloc_size v1 (.cells (siA 0 nilS nilS) 41))
                go_simp
                generalize hw : World.alloc v1 _ = v2
                obtain ⟨gb, hgs'⟩ : ∃ g, g = v1.heap.size := ⟨_, rfl⟩
                rw [← hgs']
                have HZv2 : Hid (v2.heap[gb]? = some (.cells (siA 0 nilS nilS) 41 (0, 0))) := by rw [hgs', ← hw]; exact HO.out
                have HEv2 : Hid (Below v1.heap.size v1 v2) := by rw [← hw]; exact HQQ.out
                have hbv2 : gb < v2.heap.size := by rw [hgs', ← hw]; exact Nat.lt_of_lt_of_eq (Nat.lt_succ_self _) HN.out.symm
                have hb0 : gs < gb ∧ gk < gb ∧ w.heap.size ≤ gb ∧ ga < gb := by omega
                clear hw HO HQQ HN hgs'
                have HSv2 : Hid (v2.heap[gs]? = some (.cells (sgA x (h : Int) (N : Int)) 38 (0, 0))) := (HEv2.out.block _ (by omega)).trans HSv1.out
                have HPv2 : Hid (v2.heap[gk]? = some (.cells (pkA (h : Int) (nodK x h 0)) 25 (0, 0))) := (HEv2.out.block _ (by omega)).trans HPv1.out
                have HBv2 : Hid (Below w.heap.size w v2) := HBv1.out.trans (HEv2.out.mono (by omega))
                have hsv2 : gs < v2.heap.size ∧ gk < v2.heap.size ∧ w.heap.size ≤ v2.heap.size := by have := HEv2.out.size; omega
                have HDv2 : Hid (v2.rangeAt db (doff + k * 32) (d.map (Value.int .u8))) := range_belowG HDr.out HBv2.out hdb
                have HAv2 : Hid (v2.heap[ga]? = some (.cells (sgA zh16 0 0) 38 (0, 0))) := (HEv2.out.block _ (by omega)).trans HAv1.out
                have hav2 : ga < v2.heap.size := by have := HEv2.out.size; omega
                refine hK.out _ _ ⟨HSv2.out, HDv2.out⟩ (fun hHeld => ?_)
                clear hK K
                try simp only [Act.put, List.getElem_toArray, List.getElem_cons_succ, List.getElem_cons_zero, List.setIfInBounds_toArray, List.set_cons_zero, List.set_cons_succ]
                refine wpAnyH_ready (rs := [5]) (by kernel_rfl) (by simp) (AllReadyH.cons (o := _) rfl (fun K hK => ?_) AllReadyH.nil)
                go_simp
                with_reducible refine (HCS.out _).mono ?_
                rintro e v3 ⟨rfl, hb⟩
                have HEv3 : Hid (Below v2.heap.size v2 v3) := hb
                clear hb
                have HSv3 : Hid (v3.heap[gs]? = some (.cells (sgA x (h : Int) (N : Int)) 38 (0, 0))) := (HEv3.out.block _ (by omega)).trans HSv2.out
                have HPv3 : Hid (v3.heap[gk]? = some (.cells (pkA (h : Int) (nodK x h 0)) 25 (0, 0))) := (HEv3.out.block _ (by omega)).trans HPv2.out
                have HBv3 : Hid (Below w.heap.size w v3) := HBv2.out.trans (HEv3.out.mono (by omega))
                have hsv3 : gs < v3.heap.size ∧ gk < v3.heap.size ∧ w.heap.size ≤ v3.heap.size := by have := HEv3.out.size; omega
                have HDv3 : Hid (v3.rangeAt db (doff + k * 32) (d.map (Value.int .u8))) := range_belowG HDr.out HBv3.out hdb
                have HAv3 : Hid (v3.heap[ga]? = some (.cells (sgA zh16 0 0) 38 (0, 0))) := (HEv3.out.block _ (by omega)).trans HAv2.out
                have hav3 : ga < v3.heap.size := by have := HEv3.out.size; omega
                have HZv3 : Hid (v3.heap[gb]? = some (.cells (siA 0 nilS nilS) 41 (0, 0))) := (HEv3.out.block _ (by omega)).trans HZv2.out
                have hbv3 : gb < v3.heap.size := by have := HEv3.out.size; omega
                go_wp2_with fail
                refine hK.out _ _ ⟨HSv3.out, HDv3.out⟩ (fun hHeld => ?_)
                clear hK K
                try simp only [Act.put, List.getElem_toArray, List.getElem_cons_succ, List.getElem_cons_zero, List.setIfInBounds_toArray, List.set_cons_zero, List.set_cons_succ]
                refine wpAnyH_take (i := 6) (oi := _) (v := ?v6n52) rfl (by kernel_rfl) (by kernel_rfl) (by kernel_rfl) (fun _ _ _ h => h) (Or.inl ⟨by rfl, ?hy6n52⟩) (by assumption) ?rest6n52
                case hy6n52 =>
                  intro w' hSw
                  go_simp
                  try with_reducible rfl
                try simp only [Act.put, List.getElem_toArray, List.getElem_cons_succ, List.getElem_cons_zero, List.setIfInBounds_toArray, List.set_cons_zero, List.set_cons_succ]
                refine wpAnyH_take (i := 7) (oi := _) (v := ?v7n53) rfl (by kernel_rfl) (by kernel_rfl) (by kernel_rfl) (fun _ _ _ h => h) (Or.inl ⟨by rfl, ?hy7n53⟩) (by assumption) ?rest7n53
                case hy7n53 =>
                  intro w' hSw
                  go_simp
                  try with_reducible rfl
                try simp only [Act.put, List.getElem_toArray, List.getElem_cons_succ, List.getElem_cons_zero, List.setIfInBounds_toArray, List.set_cons_zero, List.set_cons_succ]
                refine wpAnyH_take (i := 8) (oi := _) (v := ?v8n54) rfl (by kernel_rfl) (by kernel_rfl) (by kernel_rfl) (fun _ _ _ h => h) (Or.inl ⟨by rfl, ?hy8n54⟩) (by assumption) ?rest8n54
                case hy8n54 =>
                  intro w' hSw
                  go_simp
                  try with_reducible rfl
                try simp only [Act.put, List.getElem_toArray, List.getElem_cons_succ, List.getElem_cons_zero, List.setIfInBounds_toArray, List.set_cons_zero, List.set_cons_succ]
                refine wpAnyH_take (i := 9) (oi := _) (v := ?v9n55) rfl (by kernel_rfl) (by kernel_rfl) (by kernel_rfl) (fun _ _ _ h => h) (Or.inl ⟨by rfl, ?hy9n55⟩) (by assumption) ?rest9n55
                case hy9n55 =>
                  intro w' hSw
                  go_simp
                  try with_reducible rfl
                try simp only [Act.put, List.getElem_toArray, List.getElem_cons_succ, List.getElem_cons_zero, List.setIfInBounds_toArray, List.set_cons_zero, List.set_cons_succ]
                refine wpAnyH_ready (rs := [12]) (by kernel_rfl) (by simp) (AllReadyH.cons (o := _) rfl (fun K hK => ?_) AllReadyH.nil)
                rw [if_pos (by rfl)]
                refine wp_store_row 38 _ _ rfl ga (sgA zh16 0 0) rfl rfl 38 _ HAv3.out (info_sg zh16_H16) rfl (one_sg _ _ _) ?_
                generalize hw : World.setRow v3 _ _ = wy
                have HAwy : Hid (wy.heap[ga]? = some (.cells (sgA zh16 0 0) 38 (0, 0))) := by rw [← hw]; exact setRow_heap _ _ _ _ _ _ HAv3.out
                have HZwy : Hid (wy.heap[gb]? = some (.cells (siA 0 nilS nilS) 41 (0, 0))) := by rw [← hw]; exact (setRow_other _ _ _ _ (by omega)).trans HZv3.out
                have HSwy : Hid (wy.heap[gs]? = some (.cells (sgA x (h : Int) (N : Int)) 38 (0, 0))) := by rw [← hw]; exact (setRow_other _ _ _ _ (by omega)).trans HSv3.out
                have HPwy : Hid (wy.heap[gk]? = some (.cells (pkA (h : Int) (nodK x h 0)) 25 (0, 0))) := by rw [← hw]; exact (setRow_other _ _ _ _ (by omega)).trans HPv3.out
                have HBwy : Hid (Below w.heap.size w wy) := by rw [← hw]; exact below_setRow HBv3.out (by omega) _
                have HDwy : Hid (wy.rangeAt db (doff + k * 32) (d.map (Value.int .u8))) := range_belowG HDr.out HBwy.out hdb
                have hzy : wy.heap.size = v3.heap.size := by rw [← hw]; simp [World.setRow]
                clear hw
                skip
                refine hK.out _ _ ⟨HSwy.out, HDwy.out⟩ (fun hHeld => ?_)
                clear hK K
                try simp only [Act.put, List.getElem_toArray, List.getElem_cons_succ, List.getElem_cons_zero, List.setIfInBounds_toArray, List.set_cons_zero, List.set_cons_succ]
                refine wpAnyH_ready (rs := [13]) (by kernel_rfl) (by simp) (AllReadyH.cons (o := _) rfl (fun K hK => ?_) AllReadyH.nil)
                rw [if_pos (by rfl)]
                refine wp_store_row 41 _ _ rfl gb (siA 0 nilS nilS) rfl rfl 41 _ HZwy.out (info_si _ _ _) rfl (one_si _ _ _ _ _ _ _) ?_
                generalize hw : World.setRow wy _ _ = wx
                have HZwx : Hid (wx.heap[gb]? = some (.cells (siA 0 nilS nilS) 41 (0, 0))) := by rw [← hw]; exact setRow_heap _ _ _ _ _ _ HZwy.out
                have HAwx : Hid (wx.heap[ga]? = some (.cells (sgA zh16 0 0) 38 (0, 0))) := by rw [← hw]; exact (setRow_other _ _ _ _ (by omega)).trans HAwy.out
                have HSwx : Hid (wx.heap[gs]? = some (.cells (sgA x (h : Int) (N : Int)) 38 (0, 0))) := by rw [← hw]; exact (setRow_other _ _ _ _ (by omega)).trans HSwy.out
                have HPwx : Hid (wx.heap[gk]? = some (.cells (pkA (h : Int) (nodK x h 0)) 25 (0, 0))) := by rw [← hw]; exact (setRow_other _ _ _ _ (by omega)).trans HPwy.out
                have HBwx : Hid (Below w.heap.size w wx) := by rw [← hw]; exact below_setRow HBwy.out (by omega) _
                have HDwx : Hid (wx.rangeAt db (doff + k * 32) (d.map (Value.int .u8))) := range_belowG HDr.out HBwx.out hdb
                have hzx : wx.heap.size = wy.heap.size := by rw [← hw]; simp [World.setRow]
                clear hw
                skip
                refine hK.out _ _ ⟨HSwx.out, HDwx.out⟩ (fun hHeld => ?_)
                clear hK K
                try simp only [Act.put, List.getElem_toArray, List.getElem_cons_succ, List.getElem_cons_zero, List.setIfInBounds_toArray, List.set_cons_zero, List.set_cons_succ]
                refine wpAnyH_take (i := 14) (oi := _) (v := ?v14n56) rfl (by kernel_rfl) (by kernel_rfl) (by kernel_rfl) (fun _ _ _ h => h) (Or.inl ⟨by rfl, ?hy14n56⟩) (by assumption) ?rest14n56
                case hy14n56 =>
                  intro w' hSw
                  go_simp
                  try with_reducible rfl
                try simp only [Act.put, List.getElem_toArray, List.getElem_cons_succ, List.getElem_cons_zero, List.setIfInBounds_toArray, List.set_cons_zero, List.set_cons_succ]
                refine wpAnyH_done (by kernel_rfl) ?_ _
                go_wp2_with fail
                go_meet
                exact ⟨ga, gb, rfl, rfl, rfl, HAwx.out, HSwx.out, HPwx.out, HBwx.out, by omega⟩
            · have HO := Lib.hid (heap_alloc_new wr (.cells (siA 0 nilS nilS) 41))
              have HQQ : Hid (Below wr.heap.size wr (World.drew (wr.alloc (.cells (siA 0 nilS nilS) 41)))) := (below_alloc wr _).drew
              have HN := Lib.hid (alloc_size wr (.cells (siA 0 nilS nilS) 41))
              go_simp
              generalize hw : World.drew (World.alloc wr _) = v1
              obtain ⟨gb, hgs'⟩ : ∃ g, g = wr.heap.size := ⟨_, rfl⟩
              rw [← hgs']
              have HZv1 : Hid (v1.heap[gb]? = some (.cells (siA 0 nilS nilS) 41 (0, 0))) := by rw [hgs', ← hw]; exact HO.out
              have HEv1 : Hid (Below wr.heap.size wr v1) := by rw [← hw]; exact HQQ.out
              have hbv1 : gb < v1.heap.size := by rw [hgs', ← hw]; exact Nat.lt_of_lt_of_eq (Nat.lt_succ_self _) HN.out.symm
              have hb0 : gs < gb ∧ gk < gb ∧ w.heap.size ≤ gb := by omega
              clear hw HO HQQ HN hgs'
              have HSv1 : Hid (v1.heap[gs]? = some (.cells (sgA x (h : Int) (N : Int)) 38 (0, 0))) := (HEv1.out.block _ (by omega)).trans HSwr.out
              have HPv1 : Hid (v1.heap[gk]? = some (.cells (pkA (h : Int) (nodK x h 0)) 25 (0, 0))) := (HEv1.out.block _ (by omega)).trans HPwr.out
              have HBv1 : Hid (Below w.heap.size w v1) := HBwr.out.trans (HEv1.out.mono (by omega))
              have hsv1 : gs < v1.heap.size ∧ gk < v1.heap.size ∧ w.heap.size ≤ v1.heap.size := by have := HEv1.out.size; omega
              have HDv1 : Hid (v1.rangeAt db (doff + k * 32) (d.map (Value.int .u8))) := range_belowG HDr.out HBv1.out hdb
              refine hK.out _ _ ⟨HSv1.out, HDv1.out⟩ (fun hHeld => ?_)
              clear hK K
              try simp only [Act.put, List.getElem_toArray, List.getElem_cons_succ, List.getElem_cons_zero, List.setIfInBounds_toArray, List.set_cons_zero, List.set_cons_succ]
              refine wpAnyH_ready (rs := [5, 10]) (by kernel_rfl) (by simp) (AllReadyH.cons (o := _) rfl (fun K hK => ?_) (AllReadyH.cons (o := _) rfl (fun K hK => ?_) AllReadyH.nil))
              · go_simp
                with_reducible refine (HCS.out _).mono ?_
                rintro e v2 ⟨rfl, hb⟩
                have HEv2 : Hid (Below v1.heap.size v1 v2) := hb
                clear hb
                have HSv2 : Hid (v2.heap[gs]? = some (.cells (sgA x (h : Int) (N : Int)) 38 (0, 0))) := (HEv2.out.block _ (by omega)).trans HSv1.out
                have HPv2 : Hid (v2.heap[gk]? = some (.cells (pkA (h : Int) (nodK x h 0)) 25 (0, 0))) := (HEv2.out.block _ (by omega)).trans HPv1.out
                have HBv2 : Hid (Below w.heap.size w v2) := HBv1.out.trans (HEv2.out.mono (by omega))
                have hsv2 : gs < v2.heap.size ∧ gk < v2.heap.size ∧ w.heap.size ≤ v2.heap.size := by have := HEv2.out.size; omega
                have HDv2 : Hid (v2.rangeAt db (doff + k * 32) (d.map (Value.int .u8))) := range_belowG HDr.out HBv2.out hdb
                have HZv2 : Hid (v2.heap[gb]? = some (.cells (siA 0 nilS nilS) 41 (0, 0))) := (HEv2.out.block _ (by omega)).trans HZv1.out
                have hbv2 : gb < v2.heap.size := by have := HEv2.out.size; omega
                go_wp2_with fail
                refine hK.out _ _ ⟨HSv2.out, HDv2.out⟩ (fun hHeld => ?_)
                clear hK K
                try simp only [Act.put, List.getElem_toArray, List.getElem_cons_succ, List.getElem_cons_zero, List.setIfInBounds_toArray, List.set_cons_zero, List.set_cons_succ]
                refine wpAnyH_take (i := 6) (oi := _) (v := ?v6n57) rfl (by kernel_rfl) (by kernel_rfl) (by kernel_rfl) (fun _ _ _ h => h) (Or.inl ⟨by rfl, ?hy6n57⟩) (by assumption) ?rest6n57
                case hy6n57 =>
                  intro w' hSw
                  go_simp
                  try with_reducible rfl
                try simp only [Act.put, List.getElem_toArray, List.getElem_cons_succ, List.getElem_cons_zero, List.setIfInBounds_toArray, List.set_cons_zero, List.set_cons_succ]
                refine wpAnyH_take (i := 7) (oi := _) (v := ?v7n58) rfl (by kernel_rfl) (by kernel_rfl) (by kernel_rfl) (fun _ _ _ h => h) (Or.inl ⟨by rfl, ?hy7n58⟩) (by assumption) ?rest7n58
                case hy7n58 =>
                  intro w' hSw
                  go_simp
                  try with_reducible rfl
                try simp only [Act.put, List.getElem_toArray, List.getElem_cons_succ, List.getElem_cons_zero, List.setIfInBounds_toArray, List.set_cons_zero, List.set_cons_succ]
                refine wpAnyH_take (i := 8) (oi := _) (v := ?v8n59) rfl (by kernel_rfl) (by kernel_rfl) (by kernel_rfl) (fun _ _ _ h => h) (Or.inl ⟨by rfl, ?hy8n59⟩) (by assumption) ?rest8n59
                case hy8n59 =>
                  intro w' hSw
                  go_simp
                  try with_reducible rfl
                try simp only [Act.put, List.getElem_toArray, List.getElem_cons_succ, List.getElem_cons_zero, List.setIfInBounds_toArray, List.set_cons_zero, List.set_cons_succ]
                refine wpAnyH_take (i := 9) (oi := _) (v := ?v9n60) rfl (by kernel_rfl) (by kernel_rfl) (by kernel_rfl) (fun _ _ _ h => h) (Or.inl ⟨by rfl, ?hy9n60⟩) (by assumption) ?rest9n60
                case hy9n60 =>
                  intro w' hSw
                  go_simp
                  try with_reducible rfl
                try simp only [Act.put, List.getElem_toArray, List.getElem_cons_succ, List.getElem_cons_zero, List.setIfInBounds_toArray, List.set_cons_zero, List.set_cons_succ]
                refine wpAnyH_ready (rs := [10]) (by kernel_rfl) (by simp) (AllReadyH.cons (o := _) rfl (fun K hK => ?_) AllReadyH.nil)
                have HO := Lib.hid (heap_alloc_new v2 (.cells (sgA zh16 0 0) 38))
                have HQQ : Hid (Below v2.heap.size v2 ((v2.alloc (.cells (sgA zh16 0 0) 38)))) := (below_alloc v2 _)
                have HN := Lib.hid (alloc_size v2 (.cells (sgA zh16 0 0) 38))
                go_simp
                generalize hw : World.alloc v2 _ = v3
                obtain ⟨ga, hgs'⟩ : ∃ g, g = v2.heap.size := ⟨_, rfl⟩
                rw [← hgs']
                have HAv3 : Hid (v3.heap[ga]? = some (.cells (sgA zh16 0 0) 38 (0, 0))) := by rw [hgs', ← hw]; exact HO.out
                have HEv3 : Hid (Below v2.heap.size v2 v3) := by rw [← hw]; exact HQQ.out
                have hav3 : ga < v3.heap.size := by rw [hgs', ← hw]; exact Nat.lt_of_lt_of_eq (Nat.lt_succ_self _) HN.out.symm
                have ha0 : gs < ga ∧ gk < ga ∧ w.heap.size ≤ ga ∧ gb < ga := by omega
                clear hw HO HQQ HN hgs'
                have HSv3 : Hid (v3.heap[gs]? = some (.cells (sgA x (h : Int) (N : Int)) 38 (0, 0))) := (HEv3.out.block _ (by omega)).trans HSv2.out
                have HPv3 : Hid (v3.heap[gk]? = some (.cells (pkA (h : Int) (nodK x h 0)) 25 (0, 0))) := (HEv3.out.block _ (by omega)).trans HPv2.out
                have HBv3 : Hid (Below w.heap.size w v3) := HBv2.out.trans (HEv3.out.mono (by omega))
                have hsv3 : gs < v3.heap.size ∧ gk < v3.heap.size ∧ w.heap.size ≤ v3.heap.size := by have := HEv3.out.size; omega
                have HDv3 : Hid (v3.rangeAt db (doff + k * 32) (d.map (Value.int .u8))) := range_belowG HDr.out HBv3.out hdb
                have HZv3 : Hid (v3.heap[gb]? = some (.cells (siA 0 nilS nilS) 41 (0, 0))) := (HEv3.out.block _ (by omega)).trans HZv2.out
                have hbv3 : gb < v3.heap.size := by have := HEv3.out.size; omega
                refine hK.out _ _ ⟨HSv3.out, HDv3.out⟩ (fun hHeld => ?_)
                clear hK K
                try simp only [Act.put, List.getElem_toArray, List.getElem_cons_succ, List.getElem_cons_zero, List.setIfInBounds_toArray, List.set_cons_zero, List.set_cons_succ]
                refine wpAnyH_ready (rs := [12]) (by kernel_rfl) (by simp) (AllReadyH.cons (o := _) rfl (fun K hK => ?_) AllReadyH.nil)
                rw [if_pos (by rfl)]
                refine wp_store_row 38 _ _ rfl ga (sgA zh16 0 0) rfl rfl 38 _ HAv3.out (info_sg zh16_H16) rfl (one_sg _ _ _) ?_
                generalize hw : World.setRow v3 _ _ = wy
                have HAwy : Hid (wy.heap[ga]? = some (.cells (sgA zh16 0 0) 38 (0, 0))) := by rw [← hw]; exact setRow_heap _ _ _ _ _ _ HAv3.out
                have HZwy : Hid (wy.heap[gb]? = some (.cells (siA 0 nilS nilS) 41 (0, 0))) := by rw [← hw]; exact (setRow_other _ _ _ _ (by omega)).trans HZv3.out
                have HSwy : Hid (wy.heap[gs]? = some (.cells (sgA x (h : Int) (N : Int)) 38 (0, 0))) := by rw [← hw]; exact (setRow_other _ _ _ _ (by omega)).trans HSv3.out
                have HPwy : Hid (wy.heap[gk]? = some (.cells (pkA (h : Int) (nodK x h 0)) 25 (0, 0))) := by rw [← hw]; exact (setRow_other _ _ _ _ (by omega)).trans HPv3.out
                have HBwy : Hid (Below w.heap.size w wy) := by rw [← hw]; exact below_setRow HBv3.out (by omega) _
                have HDwy : Hid (wy.rangeAt db (doff + k * 32) (d.map (Value.int .u8))) := range_belowG HDr.out HBwy.out hdb
                have hzy : wy.heap.size = v3.heap.size := by rw [← hw]; simp [World.setRow]
                clear hw
                skip
                refine hK.out _ _ ⟨HSwy.out, HDwy.out⟩ (fun hHeld => ?_)
                clear hK K
                try simp only [Act.put, List.getElem_toArray, List.getElem_cons_succ, List.getElem_cons_zero, List.setIfInBounds_toArray, List.set_cons_zero, List.set_cons_succ]
                refine wpAnyH_ready (rs := [13]) (by kernel_rfl) (by simp) (AllReadyH.cons (o := _) rfl (fun K hK => ?_) AllReadyH.nil)
                rw [if_pos (by rfl)]
                refine wp_store_row 41 _ _ rfl gb (siA 0 nilS nilS) rfl rfl 41 _ HZwy.out (info_si _ _ _) rfl (one_si _ _ _ _ _ _ _) ?_
                generalize hw : World.setRow wy _ _ = wx
                have HZwx : Hid (wx.heap[gb]? = some (.cells (siA 0 nilS nilS) 41 (0, 0))) := by rw [← hw]; exact setRow_heap _ _ _ _ _ _ HZwy.out
                have HAwx : Hid (wx.heap[ga]? = some (.cells (sgA zh16 0 0) 38 (0, 0))) := by rw [← hw]; exact (setRow_other _ _ _ _ (by omega)).trans HAwy.out
                have HSwx : Hid (wx.heap[gs]? = some (.cells (sgA x (h : Int) (N : Int)) 38 (0, 0))) := by rw [← hw]; exact (setRow_other _ _ _ _ (by omega)).trans HSwy.out
                have HPwx : Hid (wx.heap[gk]? = some (.cells (pkA (h : Int) (nodK x h 0)) 25 (0, 0))) := by rw [← hw]; exact (setRow_other _ _ _ _ (by omega)).trans HPwy.out
                have HBwx : Hid (Below w.heap.size w wx) := by rw [← hw]; exact below_setRow HBwy.out (by omega) _
                have HDwx : Hid (wx.rangeAt db (doff + k * 32) (d.map (Value.int .u8))) := range_belowG HDr.out HBwx.out hdb
                have hzx : wx.heap.size = wy.heap.size := by rw [← hw]; simp [World.setRow]
                clear hw
                skip
                refine hK.out _ _ ⟨HSwx.out, HDwx.out⟩ (fun hHeld => ?_)
                clear hK K
                try simp only [Act.put, List.getElem_toArray, List.getElem_cons_succ, List.getElem_cons_zero, List.setIfInBounds_toArray, List.set_cons_zero, List.set_cons_succ]
                refine wpAnyH_take (i := 14) (oi := _) (v := ?v14n61) rfl (by kernel_rfl) (by kernel_rfl) (by kernel_rfl) (fun _ _ _ h => h) (Or.inl ⟨by rfl, ?hy14n61⟩) (by assumption) ?rest14n61
                case hy14n61 =>
                  intro w' hSw
                  go_simp
                  try with_reducible rfl
                try simp only [Act.put, List.getElem_toArray, List.getElem_cons_succ, List.getElem_cons_zero, List.setIfInBounds_toArray, List.set_cons_zero, List.set_cons_succ]
                refine wpAnyH_done (by kernel_rfl) ?_ _
                go_wp2_with fail
                go_meet
                exact ⟨ga, gb, rfl, rfl, rfl, HAwx.out, HSwx.out, HPwx.out, HBwx.out, by omega⟩
              · have HO := Lib.hid (heap_alloc_new v1 (.cells (sgA zh16 0 0) 38))
                have HQQ : Hid (Below v1.heap.size v1 ((v1.alloc (.cells (sgA zh16 0 0) 38)))) := (below_alloc v1 _)
                have HN := Lib.hid (alloc_size v1 (.cells (sgA zh16 0 0) 38))
                go_simp
                generalize hw : World.alloc v1 _ = v2
                obtain ⟨ga, hgs'⟩ : ∃ g, g = v1.heap.size := ⟨_, rfl⟩
                rw [← hgs']
                have HAv2 : Hid (v2.heap[ga]? = some (.cells (sgA zh16 0 0) 38 (0, 0))) := by rw [hgs', ← hw]; exact HO.out
                have HEv2 : Hid (Below v1.heap.size v1 v2) := by rw [← hw]; exact HQQ.out
                have hav2 : ga < v2.heap.size := by rw [hgs', ← hw]; exact Nat.lt_of_lt_of_eq (Nat.lt_succ_self _) HN.out.symm
                have ha0 : gs < ga ∧ gk < ga ∧ w.heap.size ≤ ga ∧ gb < ga := by omega
                clear hw HO HQQ HN hgs'
                have HSv2 : Hid (v2.heap[gs]? = some (.cells (sgA x (h : Int) (N : Int)) 38 (0, 0))) := (HEv2.out.block _ (by omega)).trans HSv1.out
                have HPv2 : Hid (v2.heap[gk]? = some (.cells (pkA (h : Int) (nodK x h 0)) 25 (0, 0))) := (HEv2.out.block _ (by omega)).trans HPv1.out
                have HBv2 : Hid (Below w.heap.size w v2) := HBv1.out.trans (HEv2.out.mono (by omega))
                have hsv2 : gs < v2.heap.size ∧ gk < v2.heap.size ∧ w.heap.size ≤ v2.heap.size := by have := HEv2.out.size; omega
                have HDv2 : Hid (v2.rangeAt db (doff + k * 32) (d.map (Value.int .u8))) := range_belowG HDr.out HBv2.out hdb
                have HZv2 : Hid (v2.heap[gb]? = some (.cells (siA 0 nilS nilS) 41 (0, 0))) := (HEv2.out.block _ (by omega)).trans HZv1.out
                have hbv2 : gb < v2.heap.size := by have := HEv2.out.size; omega
                refine hK.out _ _ ⟨HSv2.out, HDv2.out⟩ (fun hHeld => ?_)
                clear hK K
                try simp only [Act.put, List.getElem_toArray, List.getElem_cons_succ, List.getElem_cons_zero, List.setIfInBounds_toArray, List.set_cons_zero, List.set_cons_succ]
                refine wpAnyH_ready (rs := [5]) (by kernel_rfl) (by simp) (AllReadyH.cons (o := _) rfl (fun K hK => ?_) AllReadyH.nil)
                go_simp
                with_reducible refine (HCS.out _).mono ?_
                rintro e v3 ⟨rfl, hb⟩
                have HEv3 : Hid (Below v2.heap.size v2 v3) := hb
                clear hb
                have HSv3 : Hid (v3.heap[gs]? = some (.cells (sgA x (h : Int) (N : Int)) 38 (0, 0))) := (HEv3.out.block _ (by omega)).trans HSv2.out
                have HPv3 : Hid (v3.heap[gk]? = some (.cells (pkA (h : Int) (nodK x h 0)) 25 (0, 0))) := (HEv3.out.block _ (by omega)).trans HPv2.out
                have HBv3 : Hid (Below w.heap.size w v3) := HBv2.out.trans (HEv3.out.mono (by omega))
                have hsv3 : gs < v3.heap.size ∧ gk < v3.heap.size ∧ w.heap.size ≤ v3.heap.size := by have := HEv3.out.size; omega
                have HDv3 : Hid (v3.rangeAt db (doff + k * 32) (d.map (Value.int .u8))) := range_belowG HDr.out HBv3.out hdb
                have HAv3 : Hid (v3.heap[ga]? = some (.cells (sgA zh16 0 0) 38 (0, 0))) := (HEv3.out.block _ (by omega)).trans HAv2.out
                have hav3 : ga < v3.heap.size := by have := HEv3.out.size; omega
                have HZv3 : Hid (v3.heap[gb]? = some (.cells (siA 0 nilS nilS) 41 (0, 0))) := (HEv3.out.block _ (by omega)).trans HZv2.out
                have hbv3 : gb < v3.heap.size := by have := HEv3.out.size; omega
                go_wp2_with fail
                refine hK.out _ _ ⟨HSv3.out, HDv3.out⟩ (fun hHeld => ?_)
                clear hK K
                try simp only [Act.put, List.getElem_toArray, List.getElem_cons_succ, List.getElem_cons_zero, List.setIfInBounds_toArray, List.set_cons_zero, List.set_cons_succ]
                refine wpAnyH_take (i := 6) (oi := _) (v := ?v6n62) rfl (by kernel_rfl) (by kernel_rfl) (by kernel_rfl) (fun _ _ _ h => h) (Or.inl ⟨by rfl, ?hy6n62⟩) (by assumption) ?rest6n62
                case hy6n62 =>
                  intro w' hSw
                  go_simp
                  try with_reducible rfl
                try simp only [Act.put, List.getElem_toArray, List.getElem_cons_succ, List.getElem_cons_zero, List.setIfInBounds_toArray, List.set_cons_zero, List.set_cons_succ]
                refine wpAnyH_take (i := 7) (oi := _) (v := ?v7n63) rfl (by kernel_rfl) (by kernel_rfl) (by kernel_rfl) (fun _ _ _ h => h) (Or.inl ⟨by rfl, ?hy7n63⟩) (by assumption) ?rest7n63
                case hy7n63 =>
                  intro w' hSw
                  go_simp
                  try with_reducible rfl
                try simp only [Act.put, List.getElem_toArray, List.getElem_cons_succ, List.getElem_cons_zero, List.setIfInBounds_toArray, List.set_cons_zero, List.set_cons_succ]
                refine wpAnyH_take (i := 8) (oi := _) (v := ?v8n64) rfl (by kernel_rfl) (by kernel_rfl) (by kernel_rfl) (fun _ _ _ h => h) (Or.inl ⟨by rfl, ?hy8n64⟩) (by assumption) ?rest8n64
                case hy8n64 =>
                  intro w' hSw
                  go_simp
                  try with_reducible rfl
                try simp only [Act.put, List.getElem_toArray, List.getElem_cons_succ, List.getElem_cons_zero, List.setIfInBounds_toArray, List.set_cons_zero, List.set_cons_succ]
                refine wpAnyH_take (i := 9) (oi := _) (v := ?v9n65) rfl (by kernel_rfl) (by kernel_rfl) (by kernel_rfl) (fun _ _ _ h => h) (Or.inl ⟨by rfl, ?hy9n65⟩) (by assumption) ?rest9n65
                case hy9n65 =>
                  intro w' hSw
                  go_simp
                  try with_reducible rfl
                try simp only [Act.put, List.getElem_toArray, List.getElem_cons_succ, List.getElem_cons_zero, List.setIfInBounds_toArray, List.set_cons_zero, List.set_cons_succ]
                refine wpAnyH_ready (rs := [12]) (by kernel_rfl) (by simp) (AllReadyH.cons (o := _) rfl (fun K hK => ?_) AllReadyH.nil)
                rw [if_pos (by rfl)]
                refine wp_store_row 38 _ _ rfl ga (sgA zh16 0 0) rfl rfl 38 _ HAv3.out (info_sg zh16_H16) rfl (one_sg _ _ _) ?_
                generalize hw : World.setRow v3 _ _ = wy
                have HAwy : Hid (wy.heap[ga]? = some (.cells (sgA zh16 0 0) 38 (0, 0))) := by rw [← hw]; exact setRow_heap _ _ _ _ _ _ HAv3.out
                have HZwy : Hid (wy.heap[gb]? = some (.cells (siA 0 nilS nilS) 41 (0, 0))) := by rw [← hw]; exact (setRow_other _ _ _ _ (by omega)).trans HZv3.out
                have HSwy : Hid (wy.heap[gs]? = some (.cells (sgA x (h : Int) (N : Int)) 38 (0, 0))) := by rw [← hw]; exact (setRow_other _ _ _ _ (by omega)).trans HSv3.out
                have HPwy : Hid (wy.heap[gk]? = some (.cells (pkA (h : Int) (nodK x h 0)) 25 (0, 0))) := by rw [← hw]; exact (setRow_other _ _ _ _ (by omega)).trans HPv3.out
                have HBwy : Hid (Below w.heap.size w wy) := by rw [← hw]; exact below_setRow HBv3.out (by omega) _
                have HDwy : Hid (wy.rangeAt db (doff + k * 32) (d.map (Value.int .u8))) := range_belowG HDr.out HBwy.out hdb
                have hzy : wy.heap.size = v3.heap.size := by rw [← hw]; simp [World.setRow]
                clear hw
                skip
                refine hK.out _ _ ⟨HSwy.out, HDwy.out⟩ (fun hHeld => ?_)
                clear hK K
                try simp only [Act.put, List.getElem_toArray, List.getElem_cons_succ, List.getElem_cons_zero, List.setIfInBounds_toArray, List.set_cons_zero, List.set_cons_succ]
                refine wpAnyH_ready (rs := [13]) (by kernel_rfl) (by simp) (AllReadyH.cons (o := _) rfl (fun K hK => ?_) AllReadyH.nil)
                rw [if_pos (by rfl)]
                refine wp_store_row 41 _ _ rfl gb (siA 0 nilS nilS) rfl rfl 41 _ HZwy.out (info_si _ _ _) rfl (one_si _ _ _ _ _ _ _) ?_
                generalize hw : World.setRow wy _ _ = wx
                have HZwx : Hid (wx.heap[gb]? = some (.cells (siA 0 nilS nilS) 41 (0, 0))) := by rw [← hw]; exact setRow_heap _ _ _ _ _ _ HZwy.out
                have HAwx : Hid (wx.heap[ga]? = some (.cells (sgA zh16 0 0) 38 (0, 0))) := by rw [← hw]; exact (setRow_other _ _ _ _ (by omega)).trans HAwy.out
                have HSwx : Hid (wx.heap[gs]? = some (.cells (sgA x (h : Int) (N : Int)) 38 (0, 0))) := by rw [← hw]; exact (setRow_other _ _ _ _ (by omega)).trans HSwy.out
                have HPwx : Hid (wx.heap[gk]? = some (.cells (pkA (h : Int) (nodK x h 0)) 25 (0, 0))) := by rw [← hw]; exact (setRow_other _ _ _ _ (by omega)).trans HPwy.out
                have HBwx : Hid (Below w.heap.size w wx) := by rw [← hw]; exact below_setRow HBwy.out (by omega) _
                have HDwx : Hid (wx.rangeAt db (doff + k * 32) (d.map (Value.int .u8))) := range_belowG HDr.out HBwx.out hdb
                have hzx : wx.heap.size = wy.heap.size := by rw [← hw]; simp [World.setRow]
                clear hw
                skip
                refine hK.out _ _ ⟨HSwx.out, HDwx.out⟩ (fun hHeld => ?_)
                clear hK K
                try simp only [Act.put, List.getElem_toArray, List.getElem_cons_succ, List.getElem_cons_zero, List.setIfInBounds_toArray, List.set_cons_zero, List.set_cons_succ]
                refine wpAnyH_take (i := 14) (oi := _) (v := ?v14n66) rfl (by kernel_rfl) (by kernel_rfl) (by kernel_rfl) (fun _ _ _ h => h) (Or.inl ⟨by rfl, ?hy14n66⟩) (by assumption) ?rest14n66
                case hy14n66 =>
                  intro w' hSw
                  go_simp
                  try with_reducible rfl
                try simp only [Act.put, List.getElem_toArray, List.getElem_cons_succ, List.getElem_cons_zero, List.setIfInBounds_toArray, List.set_cons_zero, List.set_cons_succ]
                refine wpAnyH_done (by kernel_rfl) ?_ _
                go_wp2_with fail
                go_meet
                exact ⟨ga, gb, rfl, rfl, rfl, HAwx.out, HSwx.out, HPwx.out, HBwx.out, by omega⟩
        case rest =>
        obtain ⟨ga, gb, rfl, rfl, rfl, HV⟩ := hcut
        clear HCS HDwr
        have c16 := sg_h HX.out HV.out.s
        have hq1 : decide ((k : Int) ≥ wrap64 (2 ^ h)) = true := by rw [wrap_pow h2, HNE.out]; exact decide_eq_true (Int.ofNat_le.2 hkN)
        have hsz := HV.out.j
        have HRA := Lib.hid (row_rngK HV.out.a)
        go_wp2_with (first
          | (refine wpList_load_mid_gK (by rfl) 38 _ rfl ga 0 rfl _ _ HRA.out Tryd.underlying38 rfl (info_sgL zh16_H16) ?_)
          | (refine wpList_binK (by rfl) .neq 38 38 _ _ rfl (.agg (sgA zh16 0 0)) (.agg (sgA zh16 0 0)) (.bool false) rfl rfl (by kernel_rfl) (neqSg0 _) ?_))
        have HML : Hid ((min (k + 1) (2 ^ h) : Nat) = N) := by show _ = _; rw [HNE.out]; exact Nat.min_eq_right (by omega)
        go_roundw
        case rel => exact ⟨k + 1, by omega, by go_num, by rw [HML.out]; exact HV.out.s, HV.out.p, HV.out.b, hsz.2⟩
        case measure => simp [intOf]; omega
    · have HKr : Hid (KayIn wr) := HK.out.below HBwr.out hk0
      have HAW := Lib.hid (awake_any wr HKr.out (by have := HBwr.out.size; omega))
      by_cases hkn2 : k < n
      · have hd1 : decide ((k : Int) < (n : Int)) = true := by simp; omega
        have hd2 : decide ((k : Int) < 6) = false := by simp; omega
        go_wp2_with fail
        refine HAW.out.mono ?_
        rintro e w9 ⟨rfl, hb9⟩
        go_wp2_with fail
        go_ret
        exact ⟨rfl, HBwr.out.trans (hb9.mono HBwr.out.size)⟩
      · have hd1 : decide ((k : Int) < (n : Int)) = false := by simp; omega
        go_wp2_with fail
        refine HAW.out.mono ?_
        rintro e w9 ⟨rfl, hb9⟩
        go_wp2_with fail
        go_ret
        exact ⟨rfl, HBwr.out.trans (hb9.mono HBwr.out.size)⟩
end Go.Proofs.YthbcpcddanknhaaDoor
