/-
  The walk of the statements' own check of layer 12: a record without files is valid and is written (condition: the table of powers of ten reads as it is laid).
-/
import Derived.Test.YtecllfbadciaoaaGreatDoorZip
import Derived.Test.YtecllfbadciaoaaGreatDoorQ12
import Derived.Deep.DeepCutAuto
import Derived.Deep.Upon
set_option maxRecDepth 100000
set_option maxHeartbeats 8000000
namespace Go.Proofs.YtecllfbadciaoaaGreatDoor
open Go.RowKit
theorem wp_slice_eqR {P : Program} {o : Oper} {a : Act} {w : World} {K : Act → World → Prop} {Q : Exit → Act → World → Prop} (t : TypeId) (k : Nat) (parts : List (Nat × Operand)) (ho : o.op = .buildSlice t k parts.toArray)
 (vs : List (Nat × Value)) (hv : (parts.map fun (i, x) => (i, a.eval x)) = vs) (v : Value) (w' : World) (hrun : (Instr.buildSlice t k vs.toArray).run P w = .ok v w') (h : K (a.put o.dst v) w') : o.wp P a w K Q := by
 unfold Oper.wp execOp
 simp only [ho, Sem.run_bind, List.map_toArray, hv, hrun, Result.andThen_ok]
 exact h
theorem tabIs_belowR {w w' : World} {k : IntKind} {l : List Int} (h : Lib.TabIs Tryz.prog w "internal/strconv.uint64pow10" k l) (hb : Below w.heap.size w w') (hg : 1 < w.heap.size) : Lib.TabIs Tryz.prog w' "internal/strconv.uint64pow10" k l := by
 unfold Lib.TabIs World.var? at h ⊢
 rw [show Tryz.prog.globalNamed "internal/strconv.uint64pow10" = some 1 by kernel_rfl] at h ⊢
 simp only [Option.bind_some] at h ⊢
 rw [hb.block _ hg]; exact h
theorem heap_cellR {w : World} {g j : Nat} {L : List Value} {t : TypeId} {fr : Nat × Nat} {v : Value} (hg : w.heap[g]? = some (.cells L.toArray t fr)) (hv : L[j]? = some v) : w.cell? ⟨g, j, none⟩ = some v := by
 rw [cell_of_row w g j _ t fr hg]; simpa using hv
theorem own_lower {w : World} {b b' e size : Nat} {v : Value} {n : Nat} {xs : List Value} (h : w.ownsRow b e size v n xs) (hle : b' ≤ b) : w.ownsRow b' e size v n xs := by
 obtain ⟨h1, h2⟩ := h
 refine ⟨h1, ?_⟩
 rcases h2 with h | ⟨g, cap, cur, h3, h4, h5⟩
 ·exact .inl h
 ·exact .inr ⟨g, cap, cur, h3, by omega, h5⟩
def r0L : List Value := [.string ⟨#[114]⟩, .string ⟨#[]⟩, .string ⟨#[115]⟩, .int .i64 3, .slice none 0 0, .slice none 0 0, .slice none 0 0, .slice none 0 0]
theorem infoR0 : (Tryz.prog.info? 31).map (·.size) = some r0L.length := by kernel_rfl
theorem infoR0A : (Tryz.prog.info? 31).map (·.size) = some r0L.toArray.size := by kernel_rfl
theorem buildR0 (w : World) : (Instr.build 31 #[(0, .string ⟨#[114]⟩), (2, .string ⟨#[115]⟩), (3, .int .i64 3)]).run Tryz.prog w = .ok (.agg r0L.toArray) w := by kernel_rfl
theorem oneR0 : r0L.toArray.all (·.oneCell') = true := by simp [r0L, Value.oneCell']
theorem nm114 : nmB (⟨#[114]⟩ : ByteArray).data.toList = true := by decide
theorem nm115 : nmB (⟨#[115]⟩ : ByteArray).data.toList = true := by decide
theorem ensNil (w : World) (B : Nat) : EnsIn w B none 0 0 [] := ⟨rfl, fun x hx => absurd hx (by simp), fun h => absurd h (by omega)⟩
theorem idxNil (F : FuncId) (w : World) :
 Calls Tryz.prog 123 #[.slice none 0 0, .func (.func F) #[] #[]] w fun e w' => e = .returned (.int .i64 (-1)) ∧ w = w' := by
 go_enter Tryz.func123, Tryz.ntmps123
 go_wp2_with fail
 go_loop [8] (fun i => i = .int .i64 0) (fun _ => 0)
 case atStart => exact rfl
 case round =>
  obtain rfl := hrel
  go_wp2_with fail
  go_ret
  exact ⟨rfl, rfl⟩
theorem cmdNil (w : World) :
 Calls Tryz.prog 69 #[.slice none 0 0] w fun e w' => e = .returned (.bool true) ∧ w = w' := by
 have HI := zh (idxNil 107)
 have HC : Hid (∀ w, Calls Tryz.prog 101 #[.slice none 0 0, .func (.func 107) #[] #[]] w fun e w' => e = .returned (.bool false) ∧ w = w') := by
  intro w
  go_enter Tryz.func101, Tryz.ntmps101
  go_wp2_with fail
  refine (HI.out w).mono ?_
  rintro e w' ⟨rfl, rfl⟩
  go_wp2_with fail
  go_ret
  exact ⟨rfl, rfl⟩
 clear HI
 go_enter Tryz.func69, Tryz.ntmps69
 go_wp2_with fail
 refine (HC.out w).mono ?_
 rintro e w' ⟨rfl, rfl⟩
 go_wp2_with fail
 go_ret
 exact ⟨rfl, rfl⟩
theorem envNil (w : World) :
 Calls Tryz.prog 70 #[.slice none 0 0] w fun e w' => e = .returned (.bool true) ∧ w = w' := by
 go_enter Tryz.func70, Tryz.ntmps70
 go_wp2_with fail
 go_loopw [10] (fun i wr => i = .int .i64 0 ∧ wr = w) (fun _ _ => 0)
 case atStart => exact ⟨rfl, rfl⟩
 case round =>
  obtain ⟨rfl, rfl⟩ := hrel
  go_wp2_with fail
  go_ret
  exact ⟨rfl, rfl⟩
theorem vldNil : vldE [] = true := by decide
theorem valid0_any (w : World) :
 Calls Tryz.prog 31 #[.agg r0L.toArray] w fun e w' => e = .returned (.bool true) ∧ Below w.heap.size w w' := by
 have N1 := zh nm114; have N2 := zh nm115; have NV := zh vldNil
 have HSC : Hid (scpB ⟨#[]⟩ = true) := by show _ = _; decide +kernel
 go_enter Tryz.func31, Tryz.ntmps31
 go_upto_region 1 with fail
 generalize hw0 : World.alloc w _ = w0
 have HR0 : Hid (w0.heap[w.heap.size]? = some (.cells r0L.toArray 31 (0, 0))) := by rw [← hw0]; exact heap_alloc_new _ _
 have HB : Hid (Below w.heap.size w w0) := by rw [← hw0]; exact (Below.refl _ _).alloc (Nat.le_refl _) _
 have hlt : w.heap.size < w0.heap.size := by rw [← hw0]; simp
 clear hw0
 have c0 := heap_cellR HR0.out (j := 0) rfl
 have c1 := heap_cellR HR0.out (j := 1) rfl
 go_wp2_with fail
 refine (Name_any _ _ (by decide)).mono ?_
 rintro e w' ⟨rfl, rfl⟩
 rw [N1.out]
 go_wp2_with fail
 refine (Scope_any _ _ (by decide)).mono ?_
 rintro e w1 ⟨rfl, hb⟩
 rw [HSC.out]
 have HR1 : Hid (w1.heap[w.heap.size]? = some (.cells r0L.toArray 31 (0, 0))) := (hb.block _ hlt).trans HR0.out
 have HB1 : Hid (Below w.heap.size w w1) := HB.out.trans (hb.mono HB.out.size)
 have hlt1 : w.heap.size < w1.heap.size := by have := hb.size; omega
 clear hb c0 c1 HR0 HB hlt
 have c2 := heap_cellR HR1.out (j := 2) rfl
 have c3 := heap_cellR HR1.out (j := 3) rfl
 have c4 := heap_cellR HR1.out (j := 4) rfl
 have c5 := heap_cellR HR1.out (j := 5) rfl
 have c6 := heap_cellR HR1.out (j := 6) rfl
 go_wp2_with fail
 refine (Name_any _ _ (by decide)).mono ?_
 rintro e w' ⟨rfl, rfl⟩
 rw [N2.out]
 go_wp2_with fail
 refine (cmdNil _).mono ?_
 rintro e w' ⟨rfl, rfl⟩
 go_wp2_with fail
 refine (envNil _).mono ?_
 rintro e w' ⟨rfl, rfl⟩
 go_wp2_with fail
 refine (Valid_any none 0 0 [] w1 (ensNil _ _) (by omega)).mono ?_
 rintro e w2 ⟨rfl, hb⟩
 rw [NV.out]
 have HR2 : Hid (w2.heap[w.heap.size]? = some (.cells r0L.toArray 31 (0, 0))) := (hb.block _ hlt1).trans HR1.out
 have HB2 : Hid (Below w.heap.size w w2) := HB1.out.trans (hb.mono HB1.out.size)
 clear hb c2 c3 c4 c5 c6 HR1 HB1
 have c7 := heap_cellR HR2.out (j := 7) rfl
 go_wp2_with fail
 refine (Valid_any none 0 0 [] w2 (ensNil _ _) (by omega)).mono ?_
 rintro e w3 ⟨rfl, hb⟩
 rw [NV.out]
 have HB3 : Hid (Below w.heap.size w w3) := HB2.out.trans (hb.mono HB2.out.size)
 clear hb
 go_wp2_with fail
 go_ret
 exact ⟨rfl, HB3.out⟩
theorem app0S (g : Nat) (w : World) : (Builtin.append_ #[27, 27] 27 #[.slice (some ⟨g, 0, none⟩) 1 1, .slice none 0 0]).run Tryz.prog w = .ok (.slice (some ⟨g, 0, none⟩) 1 1) w := by
 obtain ⟨i, hi, _⟩ := info_parts infoStrS
 exact run_append_nothing w _ _ _ 9 i Tryz.underlying27 hi _ _ _ (by decide) _ (Src.ofNil w Tryz.underlying27 0)
theorem app0L (ty : TypeId) (g : Nat) (sp : Option Addr) (c : Nat) (w : World) : (Builtin.append_ #[59, 59] ty #[.slice (some ⟨g, 0, none⟩) 2 2, .slice sp 0 c]).run Tryz.prog w = .ok (.slice (some ⟨g, 0, none⟩) 2 2) w := by
 obtain ⟨i, hi, _⟩ := info_parts infoLnL
 refine run_append_nothing w _ _ _ 27 i Tryz.underlying59 hi _ _ _ (by decide) _ ?_
 cases sp with
 | none => exact Src.ofNil w Tryz.underlying59 c
 | some a => exact Src.ofSlice w Tryz.underlying59 a 0 c [] (by simp) (fun j u h => by simp at h) (fun u hu => by cases hu)
theorem wpList_app0 {ops : Array Oper} {rest : List Oper} {o : Oper} {a : Act} {w : World} {Q : Exit → Act → World → Prop} (hgd : o.guard = none) (s x : Operand) (ho : o.op = .call { callee := .builtin .append, args := #[s, x], argTypes := #[59, 59] }) (g : Nat) (sp : Option Addr) (c : Nat) (hs : a.eval s = .slice (some ⟨g, 0, none⟩) 2 2) (hx : a.eval x = .slice sp 0 c)
 (h : wpList Tryz.prog ops Q rest (a.put o.dst (.slice (some ⟨g, 0, none⟩) 2 2)) w) : wpList Tryz.prog ops Q (o :: rest) a w :=
 wpList_plain hgd fun _ hK => by
  unfold Oper.wp execOp
  simp only [ho, resolve, invoke, builtin, Sem.run_bind, Sem.run_pure, Result.andThen_ok, List.map_toArray, List.map_cons, List.map_nil, hs, hx, app0L]
  exact hK _ _ h
def w5L : List ByteArray := [⟨#[114, 101, 99, 111, 114, 100]⟩, ⟨#[114]⟩, ⟨#[]⟩, ⟨#[115]⟩, ⟨#[51]⟩]
def w1L : List ByteArray := [⟨#[99, 111, 109, 109, 97, 110, 100]⟩]
theorem slice5 (w : World) : (Instr.buildSlice 27 5 #[(0, .string ⟨#[114, 101, 99, 111, 114, 100]⟩), (1, .string ⟨#[114]⟩), (2, .string ⟨#[]⟩), (3, .string ⟨#[115]⟩), (4, .string ⟨#[51]⟩)]).run Tryz.prog w = .ok (.slice (some ⟨w.heap.size, 0, none⟩) 5 5) (w.alloc (.cells (w5L.map Value.string).toArray 9)) := by kernel_rfl
theorem slice1 (w : World) : (Instr.buildSlice 27 1 #[(0, .string ⟨#[99, 111, 109, 109, 97, 110, 100]⟩)]).run Tryz.prog w = .ok (.slice (some ⟨w.heap.size, 0, none⟩) 1 1) (w.alloc (.cells (w1L.map Value.string).toArray 9)) := by kernel_rfl
theorem slice2 (g g' : Nat) (w : World) : (Instr.buildSlice 59 2 #[(0, .slice (some ⟨g, 0, none⟩) 5 5), (1, .slice (some ⟨g', 0, none⟩) 1 1)]).run Tryz.prog w = .ok (.slice (some ⟨w.heap.size, 0, none⟩) 2 2) (w.alloc (.cells #[.slice (some ⟨g, 0, none⟩) 5 5, .slice (some ⟨g', 0, none⟩) 1 1] 27)) := by kernel_rfl
theorem strs_row {w : World} {g n : Nat} {l : List ByteArray} {t : TypeId} (hg : w.heap[g]? = some (.cells (l.map Value.string).toArray t (0, 0))) (hn : l.length = n) : StrsIn w w.heap.size (some ⟨g, 0, none⟩) n l :=
 ⟨hn, fun _ => ⟨g, 0, rfl, (Array.getElem?_eq_some_iff.1 hg).1, fun j hj => by rw [Nat.zero_add]; exact heap_cellR hg (by rw [List.getElem?_map, List.getElem?_eq_getElem hj]; rfl)⟩⟩
def lns2 (g5 g1 : Nat) : List Ln := [⟨some ⟨g5, 0, none⟩, 5, 5, w5L⟩, ⟨some ⟨g1, 0, none⟩, 1, 1, w1L⟩]
theorem lns2_in {w : World} {g g5 g1 : Nat} (hg : w.heap[g]? = some (.cells #[.slice (some ⟨g5, 0, none⟩) 5 5, .slice (some ⟨g1, 0, none⟩) 1 1] 27 (0, 0))) (h5 : w.heap[g5]? = some (.cells (w5L.map Value.string).toArray 9 (0, 0))) (h1 : w.heap[g1]? = some (.cells (w1L.map Value.string).toArray 9 (0, 0))) : LinesIn w w.heap.size (some ⟨g, 0, none⟩) 2 (lns2 g5 g1) :=
 ⟨rfl, fun _ => ⟨g, 0, rfl, (Array.getElem?_eq_some_iff.1 hg).1, fun j hj => by
  rw [Nat.zero_add, cell_of_row w g j _ 27 (0, 0) hg]
  match j, hj with
  | 0, _ => rfl
  | 1, _ => rfl⟩, fun q hq => by
  rcases List.mem_cons.1 hq with rfl | hq
  ·exact strs_row h5 rfl
  ·obtain rfl := List.mem_singleton.1 hq
   exact strs_row h1 rfl⟩
theorem enc0 (g5 g1 : Nat) : enc (wordsOf (lns2 g5 g1)) = (0, [114, 101, 99, 111, 114, 100, 32, 114, 32, 126, 32, 115, 32, 51, 10, 99, 111, 109, 109, 97, 110, 100, 10]) := by
 show enc [w5L, w1L] = _
 decide +kernel
theorem itoa3 : (⟨(Lib.itoa 3).toArray⟩ : ByteArray) = ⟨#[51]⟩ := by decide +kernel
def bs0 : List UInt8 := [114, 101, 99, 111, 114, 100, 32, 114, 32, 126, 32, 115, 32, 51, 10, 99, 111, 109, 109, 97, 110, 100, 10]
theorem encode0_any (w : World) (ht : Lib.TabIs Tryz.prog w "internal/strconv.uint64pow10" .u64 Lib.pow10Tab) (hg : 1 < w.heap.size) :
 Calls Tryz.prog 13 #[.agg r0L.toArray] w fun e w' => ∃ v, e = .returned (.tuple #[v, .int .i64 0]) ∧ Hid (w'.ownsRow w.heap.size 5 1 v bs0.length (Lib.byteCells bs0)) ∧ Below w.heap.size w w' := by
 have I3 := zh itoa3
 have HT := zh ht
 go_enter Tryz.func13, Tryz.ntmps13
 go_upto_region 1 with fail
 generalize hw0 : World.alloc w _ = w0
 have HR0 : Hid (w0.heap[w.heap.size]? = some (.cells r0L.toArray 31 (0, 0))) := by rw [← hw0]; exact heap_alloc_new _ _
 have HB0 : Hid (Below w.heap.size w w0) := by rw [← hw0]; exact (Below.refl _ _).alloc (Nat.le_refl _) _
 have hlt : w.heap.size < w0.heap.size := by rw [← hw0]; simp
 clear hw0
 go_wp2_with (refine wpList_load_row rfl 31 _ rfl w.heap.size rfl 31 _ (0, 0) _ HR0.out Tryz.underlying31 rfl infoR0A ?_)
 refine (valid0_any _).mono ?_
 rintro e w1 ⟨rfl, hb⟩
 have HR1 : Hid (w1.heap[w.heap.size]? = some (.cells r0L.toArray 31 (0, 0))) := (hb.block _ hlt).trans HR0.out
 have HB1 : Hid (Below w.heap.size w w1) := HB0.out.trans (hb.mono HB0.out.size)
 have hlt1 : w.heap.size < w1.heap.size := by have := hb.size; omega
 clear hb HR0 HB0 hlt
 have HCN : Hid (∀ w', Below w1.heap.size w1 w' → Calls Tryz.prog 39 #[.int .i64 3] w' fun e w'' => e = .returned (.string ⟨#[51]⟩) ∧ Below w'.heap.size w' w'') := fun w' hb => by
  rw [← I3.out]
  exact Number_any 3 (by decide) (by decide) w' (tabIs_belowR HT.out (HB1.out.trans (hb.mono HB1.out.size)) hg)
 clear I3 HT
 obtain ⟨B, hBe⟩ : ∃ B, B = w1.heap.size := ⟨_, rfl⟩
 have HSw1 : Hid (Blks B w1 w1 []) := Blks.start (Below.refl _ _) (Nat.le_of_eq hBe)
 rw [← hBe] at HCN
 have HLT : Hid (w.heap.size < B) := by show _ < _; omega
 have HBe := zh hBe
 clear hBe hlt1 ht hg
 go_upto_region 3 with fail
 go_cut [4] (fun s4 wx => ∃ g g5 g1, s4 = .slice (some ⟨g, 0, none⟩) 2 2 ∧ Hid (LinesIn wx wx.heap.size (some ⟨g, 0, none⟩) 2 (lns2 g5 g1) ∧ Below B w1 wx))
 case first =>
  as_aux_lemma =>
   refine wp_region_held_drew (S := fun w' => Below B w1 w') (by kernel_rfl) HSw1.out.b.drew (fun hHeld => ?_)
   refine zv 0 rfl ?_
   refine zx 1 rfl (v := ?_) ?_ ?_; rotate_left
   ·intro w' hSw; have k1 := heap_cellR ((hSw.block _ HLT.out).trans HR1.out) (j := 0) rfl; go_simp; try with_reducible rfl
   refine zv 2 rfl ?_
   refine zx 3 rfl (v := ?_) ?_ ?_; rotate_left
   ·intro w' hSw; have k1 := heap_cellR ((hSw.block _ HLT.out).trans HR1.out) (j := 1) rfl; go_simp; try with_reducible rfl
   refine zv 4 rfl ?_
   refine zx 5 rfl (v := ?_) ?_ ?_; rotate_left
   ·intro w' hSw; have k1 := heap_cellR ((hSw.block _ HLT.out).trans HR1.out) (j := 2) rfl; go_simp; try with_reducible rfl
   refine zv 6 rfl ?_
   refine zx 7 rfl (v := ?_) ?_ ?_; rotate_left
   ·intro w' hSw; have k1 := heap_cellR ((hSw.block _ HLT.out).trans HR1.out) (j := 3) rfl; go_simp; try with_reducible rfl
   refine zv 11 rfl ?_
   refine zx 12 rfl (v := ?_) ?_ ?_; rotate_left
   ·intro w' hSw; have k1 := heap_cellR ((hSw.block _ HLT.out).trans HR1.out) (j := 4) rfl; go_simp; try with_reducible rfl
   refine zs 8 10 rfl (fun K hK => ?_) rfl (fun K hK => ?_)
   go_simp
   with_reducible refine (HCN.out _ (HSw1.out.drew).b).mono ?_
   rintro e v1 ⟨rfl, hb⟩
   have HSv1 := zh (HSw1.out.call ((Below.refl _ _).drew.trans hb))
   clear hb
   go_wp2_with fail
   refine hK.out _ _ HSv1.out.b fun _ => ?_; clear hK K
   refine zs 9 10 rfl (fun K hK => ?_) rfl (fun K hK => ?_)
   first | (rw [if_pos (by rfl)]; refine wp_slice_eqR 27 5 [(0, .const (.string ⟨#[114, 101, 99, 111, 114, 100]⟩)), (1, .tmp 11), (2, .tmp 13), (3, .tmp 15), (4, .tmp 18)] rfl [(0, .string ⟨#[114, 101, 99, 111, 114, 100]⟩), (1, .string ⟨#[114]⟩), (2, .string ⟨#[]⟩), (3, .string ⟨#[115]⟩), (4, .string ⟨#[51]⟩)] rfl _ _ (slice5 _) ?_) | skip
   obtain ⟨g5, v2, hg, hw, HSv2, HEv2⟩ := HSv1.out.allocd (.cells (w5L.map Value.string).toArray 9 (0, 0))
   go_simp
   try rw [hg]
   generalize hq : World.alloc v1 _ = q
   obtain rfl : v2 = q := hw.symm.trans hq
   clear hg hw hq
   refine hK.out _ _ HSv2.out.b fun _ => ?_; clear hK K
   refine zr 10 rfl (fun K hK => ?_)
   first | (rw [if_pos (by rfl)]; refine wp_slice_eqR 27 1 [(0, .const (.string ⟨#[99, 111, 109, 109, 97, 110, 100]⟩))] rfl [(0, .string ⟨#[99, 111, 109, 109, 97, 110, 100]⟩)] rfl _ _ (slice1 _) ?_) | skip
   obtain ⟨g1, v3, hg, hw, HSv3, HEv3⟩ := HSv2.out.allocd (.cells (w1L.map Value.string).toArray 9 (0, 0))
   go_simp
   try rw [hg]
   generalize hq : World.alloc v2 _ = q
   obtain rfl : v3 = q := hw.symm.trans hq
   clear hg hw hq
   refine hK.out _ _ HSv3.out.b fun _ => ?_; clear hK K
   refine zx 13 rfl (v := ?_) ?_ ?_; rotate_left
   ·intro w' hSw; have k1 := app0S g1 w'; go_simp; try with_reducible rfl
   refine zr 14 rfl (fun K hK => ?_)
   first | (rw [if_pos (by rfl)]; refine wp_slice_eqR 59 2 [(0, .tmp 19), (1, .tmp 23)] rfl [(0, .slice (some ⟨g5, 0, none⟩) 5 5), (1, .slice (some ⟨g1, 0, none⟩) 1 1)] rfl _ _ (slice2 _ _ _) ?_) | skip
   obtain ⟨g0, v4, hg, hw, HSv4, HEv4⟩ := HSv3.out.allocd (.cells #[.slice (some ⟨g5, 0, none⟩) 5 5, .slice (some ⟨g1, 0, none⟩) 1 1] 27 (0, 0))
   go_simp
   try rw [hg]
   generalize hq : World.alloc v3 _ = q
   obtain rfl : v4 = q := hw.symm.trans hq
   clear hg hw hq
   refine hK.out _ _ HSv4.out.b fun _ => ?_; clear hK K
   refine zv 15 rfl ?_
   refine zd ?_ _
   go_wp2_with fail
   go_meet
   exact ⟨g0, g5, g1, rfl, lns2_in (HSv4.out.at 0 rfl) (HSv4.out.at 2 rfl) (HSv4.out.at 1 rfl), HSv4.out.b⟩
   first | (rw [if_pos (by rfl)]; refine wp_slice_eqR 27 1 [(0, .const (.string ⟨#[99, 111, 109, 109, 97, 110, 100]⟩))] rfl [(0, .string ⟨#[99, 111, 109, 109, 97, 110, 100]⟩)] rfl _ _ (slice1 _) ?_) | skip
   obtain ⟨g1, v2, hg, hw, HSv2, HEv2⟩ := HSv1.out.allocd (.cells (w1L.map Value.string).toArray 9 (0, 0))
   go_simp
   try rw [hg]
   generalize hq : World.alloc v1 _ = q
   obtain rfl : v2 = q := hw.symm.trans hq
   clear hg hw hq
   refine hK.out _ _ HSv2.out.b fun _ => ?_; clear hK K
   refine zx 13 rfl (v := ?_) ?_ ?_; rotate_left
   ·intro w' hSw; have k1 := app0S g1 w'; go_simp; try with_reducible rfl
   refine zr 9 rfl (fun K hK => ?_)
   first | (rw [if_pos (by rfl)]; refine wp_slice_eqR 27 5 [(0, .const (.string ⟨#[114, 101, 99, 111, 114, 100]⟩)), (1, .tmp 11), (2, .tmp 13), (3, .tmp 15), (4, .tmp 18)] rfl [(0, .string ⟨#[114, 101, 99, 111, 114, 100]⟩), (1, .string ⟨#[114]⟩), (2, .string ⟨#[]⟩), (3, .string ⟨#[115]⟩), (4, .string ⟨#[51]⟩)] rfl _ _ (slice5 _) ?_) | skip
   obtain ⟨g5, v3, hg, hw, HSv3, HEv3⟩ := HSv2.out.allocd (.cells (w5L.map Value.string).toArray 9 (0, 0))
   go_simp
   try rw [hg]
   generalize hq : World.alloc v2 _ = q
   obtain rfl : v3 = q := hw.symm.trans hq
   clear hg hw hq
   refine hK.out _ _ HSv3.out.b fun _ => ?_; clear hK K
   refine zr 14 rfl (fun K hK => ?_)
   first | (rw [if_pos (by rfl)]; refine wp_slice_eqR 59 2 [(0, .tmp 19), (1, .tmp 23)] rfl [(0, .slice (some ⟨g5, 0, none⟩) 5 5), (1, .slice (some ⟨g1, 0, none⟩) 1 1)] rfl _ _ (slice2 _ _ _) ?_) | skip
   obtain ⟨g0, v4, hg, hw, HSv4, HEv4⟩ := HSv3.out.allocd (.cells #[.slice (some ⟨g5, 0, none⟩) 5 5, .slice (some ⟨g1, 0, none⟩) 1 1] 27 (0, 0))
   go_simp
   try rw [hg]
   generalize hq : World.alloc v3 _ = q
   obtain rfl : v4 = q := hw.symm.trans hq
   clear hg hw hq
   refine hK.out _ _ HSv4.out.b fun _ => ?_; clear hK K
   refine zv 15 rfl ?_
   refine zd ?_ _
   go_wp2_with fail
   go_meet
   exact ⟨g0, g5, g1, rfl, lns2_in (HSv4.out.at 0 rfl) (HSv4.out.at 1 rfl) (HSv4.out.at 2 rfl), HSv4.out.b⟩
   first | (rw [if_pos (by rfl)]; refine wp_slice_eqR 27 1 [(0, .const (.string ⟨#[99, 111, 109, 109, 97, 110, 100]⟩))] rfl [(0, .string ⟨#[99, 111, 109, 109, 97, 110, 100]⟩)] rfl _ _ (slice1 _) ?_) | skip
   obtain ⟨g1, v1, hg, hw, HSv1, HEv1⟩ := HSw1.out.allocdD (.cells (w1L.map Value.string).toArray 9 (0, 0))
   go_simp
   try rw [hg]
   generalize hq : World.drew (World.alloc w1 _) = q
   obtain rfl : v1 = q := hw.symm.trans hq
   clear hg hw hq
   refine hK.out _ _ HSv1.out.b fun _ => ?_; clear hK K
   refine zr 8 rfl (fun K hK => ?_)
   go_simp
   with_reducible refine (HCN.out _ (HSv1.out).b).mono ?_
   rintro e v2 ⟨rfl, hb⟩
   have HSv2 := zh (HSv1.out.call hb)
   clear hb
   go_wp2_with fail
   refine hK.out _ _ HSv2.out.b fun _ => ?_; clear hK K
   refine zx 13 rfl (v := ?_) ?_ ?_; rotate_left
   ·intro w' hSw; have k1 := app0S g1 w'; go_simp; try with_reducible rfl
   refine zr 9 rfl (fun K hK => ?_)
   first | (rw [if_pos (by rfl)]; refine wp_slice_eqR 27 5 [(0, .const (.string ⟨#[114, 101, 99, 111, 114, 100]⟩)), (1, .tmp 11), (2, .tmp 13), (3, .tmp 15), (4, .tmp 18)] rfl [(0, .string ⟨#[114, 101, 99, 111, 114, 100]⟩), (1, .string ⟨#[114]⟩), (2, .string ⟨#[]⟩), (3, .string ⟨#[115]⟩), (4, .string ⟨#[51]⟩)] rfl _ _ (slice5 _) ?_) | skip
   obtain ⟨g5, v3, hg, hw, HSv3, HEv3⟩ := HSv2.out.allocd (.cells (w5L.map Value.string).toArray 9 (0, 0))
   go_simp
   try rw [hg]
   generalize hq : World.alloc v2 _ = q
   obtain rfl : v3 = q := hw.symm.trans hq
   clear hg hw hq
   refine hK.out _ _ HSv3.out.b fun _ => ?_; clear hK K
   refine zr 14 rfl (fun K hK => ?_)
   first | (rw [if_pos (by rfl)]; refine wp_slice_eqR 59 2 [(0, .tmp 19), (1, .tmp 23)] rfl [(0, .slice (some ⟨g5, 0, none⟩) 5 5), (1, .slice (some ⟨g1, 0, none⟩) 1 1)] rfl _ _ (slice2 _ _ _) ?_) | skip
   obtain ⟨g0, v4, hg, hw, HSv4, HEv4⟩ := HSv3.out.allocd (.cells #[.slice (some ⟨g5, 0, none⟩) 5 5, .slice (some ⟨g1, 0, none⟩) 1 1] 27 (0, 0))
   go_simp
   try rw [hg]
   generalize hq : World.alloc v3 _ = q
   obtain rfl : v4 = q := hw.symm.trans hq
   clear hg hw hq
   refine hK.out _ _ HSv4.out.b fun _ => ?_; clear hK K
   refine zv 15 rfl ?_
   refine zd ?_ _
   go_wp2_with fail
   go_meet
   exact ⟨g0, g5, g1, rfl, lns2_in (HSv4.out.at 0 rfl) (HSv4.out.at 1 rfl) (HSv4.out.at 2 rfl), HSv4.out.b⟩
 case rest =>
 obtain ⟨g, g5, g1, rfl, HQ⟩ := hcut
 clear HSw1 HCN
 obtain ⟨w2, hw2⟩ : ∃ w2, w2 = wc := ⟨_, rfl⟩
 subst hw2
 have HR2 : Hid (w2.heap[w.heap.size]? = some (.cells r0L.toArray 31 (0, 0))) := (HQ.out.2.block _ HLT.out).trans HR1.out
 have HB2 : Hid (Below w.heap.size w w2) := HB1.out.trans (HQ.out.2.mono (Nat.le_of_lt HLT.out))
 have HL2 := zh HQ.out.1
 have hlt2 : w.heap.size < w2.heap.size := (Array.getElem?_eq_some_iff.1 HR2.out).1
 clear HQ HR1 HB1 HLT HBe
 have c5 := heap_cellR HR2.out (j := 5) rfl
 go_wp2_with fail
 clear c5
 go_loopw [4, 28] (fun v i wr => v = .slice (some ⟨g, 0, none⟩) 2 2 ∧ i = .int .i64 0 ∧ wr = w2) (fun _ _ _ => 0)
 case atStart => exact ⟨rfl, rfl, rfl⟩
 case round =>
  obtain ⟨rfl, rfl, rfl⟩ := hrel
  have c6 := heap_cellR HR2.out (j := 6) rfl
  go_wp2_with fail
  refine (Lines_any _ none 0 0 [] wr (ensNil _ _) (by omega)).mono ?_
  rintro e w3 ⟨sp3, cap3, ls3, rfl, h3, _, _, hb⟩
  have HR3 : Hid (w3.heap[w.heap.size]? = some (.cells r0L.toArray 31 (0, 0))) := (hb.block _ hlt2).trans HR2.out
  have HB3 : Hid (Below w.heap.size w w3) := HB2.out.trans (hb.mono HB2.out.size)
  have HL3 : Hid (LinesIn w3 w3.heap.size (some ⟨g, 0, none⟩) 2 (lns2 g5 g1)) := (HL2.out.below hb (Nat.le_refl _)).more hb.size
  have hlt3 : w.heap.size < w3.heap.size := (Array.getElem?_eq_some_iff.1 HR3.out).1
  clear hb h3 c6 HR2 HB2 HL2 hlt2
  have c7 := heap_cellR HR3.out (j := 7) rfl
  go_wp2_with (refine wpList_app0 rfl _ _ rfl g sp3 cap3 rfl rfl ?_)
  refine (Lines_any _ none 0 0 [] w3 (ensNil _ _) (by omega)).mono ?_
  rintro e w4 ⟨sp4, cap4, ls4, rfl, h4, _, _, hb⟩
  have HB4 : Hid (Below w.heap.size w w4) := HB3.out.trans (hb.mono HB3.out.size)
  have HL4 : Hid (LinesIn w4 w4.heap.size (some ⟨g, 0, none⟩) 2 (lns2 g5 g1)) := (HL3.out.below hb (Nat.le_refl _)).more hb.size
  clear hb h4 c7 HR3 HB3 HL3 hlt3
  go_wp2_with (refine wpList_app0 rfl _ _ rfl g sp4 cap4 rfl rfl ?_)
  refine (Encode_any _ 2 2 _ w4 HL4.out (by omega) (by intro q hq; rcases List.mem_cons.1 hq with rfl | hq; exact (show (5 : Nat) ≤ 9223372036854775807 by decide); rw [List.mem_singleton.1 hq]; exact (show (1 : Nat) ≤ 9223372036854775807 by decide))).mono ?_
  rintro e w5 ⟨v, rfl, hown, hb⟩
  rw [enc0] at hown ⊢
  have HO : Hid (w5.ownsRow w.heap.size 5 1 v bs0.length (Lib.byteCells bs0)) := own_lower hown.out HB4.out.size
  have HB5 : Hid (Below w.heap.size w w5) := HB4.out.trans (hb.mono HB4.out.size)
  clear hown hb
  go_wp2_with fail
  go_ret2
  exact ⟨v, rfl, HO, HB5.out⟩
end Go.Proofs.YtecllfbadciaoaaGreatDoor
