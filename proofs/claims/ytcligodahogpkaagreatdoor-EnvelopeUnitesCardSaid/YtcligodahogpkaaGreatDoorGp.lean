/-
  One-time signatures: lists of halves in memory; rows of slices of the call's own; the walk of Combine (conditions: at most 1000 ends; the table of constants reads as it is laid).
-/
import Derived.Test.YtcligodahogpkaaGreatDoorZip
import Derived.Test.YtcligodahogpkaaGreatDoorGo
import Derived.KernelRfl
set_option maxRecDepth 100000
set_option maxHeartbeats 8000000
namespace Go.Proofs.YtcligodahogpkaaGreatDoor
open Go.RowKit Go.Proofs.YtcligodahogpkaaGreatDoor.One
structure HvsIn (w : World) (B : Nat) (da : Option Addr) (n cap : Nat) (l : List (List Int)) : Prop where
 len : l.length = n
 ok : ∀ x ∈ l, H16 x
 cells : 0 < n → ∃ b off, da = some ⟨b, off, none⟩ ∧ b < B ∧ n ≤ cap ∧ ∀ i, i < n → w.rangeAt b (off + i * 16) ((l.getD i []).map (Value.int .u8))
theorem HvsIn.below {w w' : World} {B B' : Nat} {da : Option Addr} {n cap : Nat} {l : List (List Int)} (h : HvsIn w B da n cap l) (hb : Below B' w w') (hB : B ≤ B') : HvsIn w' B' da n cap l :=
 ⟨h.len, h.ok, fun hn => by
  obtain ⟨b, off, e, hlt, hc, hr⟩ := h.cells hn
  exact ⟨b, off, e, by omega, hc, fun i hi => aA (hr i hi) hb (by omega)⟩⟩
theorem HvsIn.at16 {w : World} {B : Nat} {da : Option Addr} {n cap : Nat} {l : List (List Int)} (h : HvsIn w B da n cap l) {i : Nat} (hi : i < n) : H16 (l.getD i []) := by
 have hl := h.len
 rw [List.getD_eq_getElem?_getD, List.getElem?_eq_getElem (by omega)]
 exact h.ok _ (List.getElem_mem _)
def jJ (l : List (List Int)) : List Value := l.flatMap fun d => d.map (Value.int .u8)
theorem qH (l : List (List Int)) (x : List Int) : jJ (l ++ [x]) = jJ l ++ x.map (Value.int .u8) := by simp [jJ]
def OwnHv (w : World) (base : Nat) (v : Value) (l : List (List Int)) : Prop := w.ownsRow base 54 16 v l.length (jJ l) ∧ ∀ x ∈ l, H16 x
theorem OwnHv.nil (w : World) (base : Nat) : OwnHv w base (.slice none 0 0) [] := ⟨World.ownsRow_nil w base _ _, by simp⟩
theorem OwnHv.below {w w' : World} {base : Nat} {v : Value} {l : List (List Int)} (h : OwnHv w base v l) (hb : Below w.heap.size w w') : OwnHv w' base v l := ⟨eN h.1 hb, h.2⟩
theorem OwnHv.hvs {w : World} {base : Nat} {sp : Option Addr} {n cap : Nat} {l : List (List Int)} (h : OwnHv w base (.slice sp n cap) l) (hn : l.length = n) : HvsIn w w.heap.size sp n cap l := by
 refine ⟨hn, h.2, fun h0 => ?_⟩
 have h1 := h.1
 obtain ⟨_, ⟨e, e0⟩ | ⟨g, cap', cur, e, _⟩⟩ := h.1
 ·omega
 ·injection e with e1 e2 e3
  subst e1
  obtain ⟨hg, hc, hr⟩ := mJ (f := fun d : List Int => d.map (Value.int .u8)) h1 (fun x hx => by rw [List.length_map, (h.2 x hx).1]) hn
  refine ⟨g, 0, rfl, hg, hc, fun i hi => ?_⟩
  exact hr i _ (by rw [List.getD_eq_getElem?_getD, List.getElem?_eq_getElem (by omega)]; rfl)
theorem qQ : (Tryz.prog.info? 54).map (fun i => (i.zero, i.size, i.bytes)) = some (some (.agg (List.replicate 16 (Value.int .u8 0)).toArray), 16, 16) := by kernel_rfl
theorem JC : (Tryz.prog.info? 54).map (·.size) = some 16 := by kernel_rfl
theorem fR {w : World} {ops : Array Oper} {rest : List Oper} {o : Oper} {a : Act} {Q : Exit → Act → World → Prop} (hgd : o.guard = none) (s x : Operand)
 (ho : o.op = .call { callee := .builtin .append, args := #[s, x], argTypes := #[58, 58] }) (base : Nat) (v : Value) (l : List (List Int)) (n : Nat) (hn : n = l.length) (hs : a.eval s = v) (hown : OwnHv w base v l)
 (g : Nat) (y : List Int) (hx : a.eval x = .slice (some ⟨g, 0, none⟩) 1 1) (hy : w.rangeAt g 0 (y.map (Value.int .u8))) (hok : H16 y) (hlen : n ≤ 1000000) (hbase : base ≤ w.heap.size)
 (h : ∀ sp cap w', Hid (OwnHv w' base (.slice sp (n + 1) cap) (l ++ [y])) → Hid (Below base w w') → Hid (w.grownBy w' v.ownBlock) → wpList Tryz.prog ops Q rest (a.put o.dst (.slice sp (n + 1) cap)) w') : wpList Tryz.prog ops Q (o :: rest) a w := by
 subst hn
 obtain ⟨i0, hi0, hz0, hz1, hz2⟩ := bF qQ
 refine wpList_append_own w hgd s x _ ho base _ i0 _ 16 16 Tryz.underlying58 hi0 hz0 hz1 hz2 rfl (by decide) v l.length _ hs hown.1 ⟨g, 0, none⟩ 1 1 (y.map (Value.int .u8)) hx (by rw [List.length_map, hok.1]) ?_ (gG _ _) (by unfold maxLen; omega) (by omega) hbase ?_
 ·intro j u hj
  rw [Addr.add_mid]
  exact hy j u hj
 ·intro v' w' h1 h2 _
  obtain ⟨sp, cap, rfl⟩ := aZ h1
  refine h sp cap w' ⟨by rw [qH, List.length_append]; exact h1, fun z hz => ?_⟩ ((Below.refl base w).grown h2 hbase (bL hown.1)) h2
  rcases List.mem_append.1 hz with hz | hz
  ·exact hown.2 z hz
  ·rw [List.mem_singleton.1 hz]; exact hok
theorem NK : (Tryz.prog.info? 54).map (·.zero) = some (some (.agg (List.replicate 16 (Value.int .u8 0)).toArray)) := by kernel_rfl
theorem kW (w : World) (x : List Int) (hx : H16 x) : (Instr.buildSlice 58 1 #[(0, .agg (hvA x))]).run Tryz.prog w = .ok (.slice (some ⟨w.heap.size, 0, none⟩) 1 1) (w.alloc (.cells (hvA x) 54)) := by
 have h : (x.map (Value.int .u8)).length = 16 := by rw [List.length_map, hx.1]
 have hz := NK
 have hi := JC
 cases hie : Tryz.prog.info? 54 with
 | none => rw [hie] at hi; cases hi
 | some ie =>
   rw [hie] at hi hz
   exact oK w _ _ _ ie _ Tryz.underlying58 hie (by injection hz) (by rw [h]; injection hi) (by omega) (by omega)
def OwnP (w : World) (base : Nat) (v : Value) (ps : List Part) : Prop := w.ownsRow base 22 1 v ps.length (ps.map Part.val)
theorem OG : (Tryz.prog.info? 22).map (fun i => (i.zero, i.size, i.bytes)) = some (some (.slice none 0 0), 1, 24) := by kernel_rfl
theorem OwnP.parts {w : World} {base : Nat} {sp : Option Addr} {n cap : Nat} {ps : List Part} (h : OwnP w base (.slice sp n cap) ps) (hn : ps.length = n) (hs : ∀ q ∈ ps, Src w w.heap.size q.sp q.n q.cap q.b) : PartsIn w w.heap.size sp n ps := by
 refine ⟨hn, fun h0 => ?_, hs⟩
 obtain ⟨_, ⟨e, e0⟩ | ⟨g, c, cur, e, hg, h1, h2, h3, h4, h5⟩⟩ := h
 ·omega
 ·simp only [Value.slice.injEq] at e
  obtain ⟨e1, e2, e3⟩ := e
  refine ⟨g, 0, e1, (Array.getElem?_eq_some_iff.1 h1).1, fun j hj => ?_⟩
  rw [Nat.zero_add, cell_of_row w g j _ _ _ h1]
  have h6 : (ps.map Part.val)[j]? = some ps[j].val := by rw [List.getElem?_map, List.getElem?_eq_getElem hj]; rfl
  rw [← h5, List.getElem?_take, if_pos (by omega)] at h6
  simpa using h6
theorem DS (w : World) (x : Value) : ∀ j u, [x][j]? = some u → (w.alloc (.cells #[x] 22)).cell? ((⟨w.heap.size, 0, none⟩ : Addr).add j) = some u := by
 intro j u hj
 rw [Addr.add_mid, Nat.zero_add, cell_of_row _ w.heap.size j _ _ (0, 0) (heap_alloc_new w _)]
 simpa using hj
theorem jH {w : World} {ops : Array Oper} {rest : List Oper} {o : Oper} {a : Act} {Q : Exit → Act → World → Prop} (hgd : o.guard = none) (s x : Operand) (ho : o.op = .call { callee := .builtin .append, args := #[s, x], argTypes := #[49, 49] })
 (base : Nat) (v : Value) (ps : List Part) (hs : a.eval s = v) (hown : OwnP w base v ps) (q : Part) (hx : a.eval x = .slice (some ⟨w.heap.size, 0, none⟩) 1 1)
 (hlen : ps.length ≤ 1000000000) (hbase : base ≤ w.heap.size)
 (h : ∀ v' w', Hid (OwnP w' base v' (ps ++ [q])) → Hid (Below base w w') → Hid ((w.alloc (.cells #[q.val] 22)).grownBy w' v.ownBlock) → wpList Tryz.prog ops Q rest (a.put o.dst v') w') : wpList Tryz.prog ops Q (o :: rest) a (w.alloc (.cells #[q.val] 22)) := by
 obtain ⟨i0, hi0, hz0, hz1, hz2⟩ := bF OG
 refine wpList_append_own _ hgd s x _ ho base _ i0 _ 1 24 Tryz.underlying49 hi0 hz0 hz1 hz2 rfl (by decide) v ps.length _ hs (World.ownsRow.alloc hown _) ⟨w.heap.size, 0, none⟩ 1 1 [q.val] hx rfl (DS w q.val) (by intro u hu; simp at hu; subst hu; rfl) (by unfold maxLen; omega) (by omega) (by simp; omega) ?_
 intro v' w' h1 h2 _
 refine h v' w' ?_ ?_ h2
 ·show w'.ownsRow _ _ _ _ _ _
  rw [List.map_append, List.length_append]; exact h1
 ·exact ((Below.refl base w).alloc hbase _).grown h2 (by simp; omega) (bL hown)
def EQ (leaf : Int) (l : List (List Int)) : List Int := hfB ([5] ++ [lb1 leaf, lb0 leaf] ++ l.flatten)
theorem iB (leaf : Int) (l : List (List Int)) : H16 (EQ leaf l) := jB _
def zZ (eb eo : Nat) (l : List (List Int)) (i : Nat) : Part := ⟨some ⟨eb, eo + i * 16, none⟩, 16, 16, l.getD i []⟩
theorem GM (eb eo : Nat) (l : List (List Int)) : cat ((List.range l.length).map (zZ eb eo l)) = l.flatten := by
 unfold cat
 rw [List.map_map]
 congr 1
 apply List.ext_getElem
 ·simp
 ·intro i h1 h2
  simp [zZ, List.getD_eq_getElem?_getD, List.getElem?_eq_getElem h2]
theorem mO : ∀ (l : List (List Int)), (∀ x ∈ l, H16 x) → l.flatten.length = 16 * l.length
 | [], _ => rfl
 | x :: t, h => by
   rw [List.flatten_cons, List.length_append, (h x (by simp)).1, mO t (fun y hy => h y (by simp [hy])), List.length_cons]; omega
theorem eL {α : Type} (f : Nat → α) (k : Nat) : (List.range (k + 1)).map f = (List.range k).map f ++ [f k] := by rw [List.range_succ, List.map_append]; rfl
theorem yC {w : World} {B eb eo n cap : Nat} {l : List (List Int)} (h : HvsIn w B (some ⟨eb, eo, none⟩) n cap l) {i : Nat} (hi : i < n) : Src w B (zZ eb eo l i).sp (zZ eb eo l i).n (zZ eb eo l i).cap (zZ eb eo l i).b := by
 have h16 := h.at16 hi
 obtain ⟨b, off, e, hlt, hc, hr⟩ := h.cells (by omega)
 injection e with e; injection e with e1 e2; subst e1 e2
 refine ⟨h16.1, h16.2, fun _ => ⟨eb, eo + i * 16, rfl, hlt, Nat.le_refl _, fun j hj => ?_⟩⟩
 exact hr i hi j _ (fZ _ _ _ _ (by rw [h16.1]; exact hj))
theorem vH {w : World} {g B n : Nat} {t : TypeId} {L : List Int} (hg : RowIn w g t .u8 L) (hL : Byt L) (hlt : g < B) (hn : L.length = n) : Src w B (some ⟨g, 0, none⟩) n n L := by
 subst hn; exact bZ hg hL hlt (Nat.le_refl _)
theorem HvsIn.place {w : World} {B : Nat} {sp : Option Addr} {n cap : Nat} {l : List (List Int)} (h : HvsIn w B sp n cap l) : ∃ eb eo, 0 < n → sp = some ⟨eb, eo, none⟩ := by
 by_cases hn : 0 < n
 ·obtain ⟨b, off, e, _⟩ := h.cells hn
  exact ⟨b, off, fun _ => e⟩
 ·exact ⟨0, 0, fun h => absurd h hn⟩
structure OW (w : World) (t : List Int) (w' : World) : Prop where
 r1 : RowIn w' w.heap.size 190 .u8 t
 r2 : RowIn w' (w.heap.size + 1) 5 .u8 [5]
 o : OwnP w' (w.heap.size + 2) (.slice (some ⟨w.heap.size + 1 + 1, 0, none⟩) 2 2) [⟨some ⟨w.heap.size + 1, 0, none⟩, 1, 1, [5]⟩, ⟨some ⟨w.heap.size, 0, none⟩, 2, 2, t⟩]
 b : Below w.heap.size w w'
 s : w'.heap.size = w.heap.size + 3
theorem yX (w : World) (t : List Int) : OW w t (((w.alloc (.cells (t.map (Value.int .u8)).toArray 190)).alloc (.cells #[.int .u8 5] 5)).alloc (.cells #[.slice (some ⟨w.heap.size + 1, 0, none⟩) 1 1, .slice (some ⟨w.heap.size, 0, none⟩) 2 2] 22)) := by
 have h1 := RowB.new w 190 t
 generalize w.alloc (.cells (t.map (Value.int .u8)).toArray 190) = w1 at *
 have h2 := RowB.new w1 5 [5]
 have e0 : w1.alloc (.cells ([5].map (Value.int .u8)).toArray 5) = w1.alloc (.cells #[.int .u8 5] 5) := rfl
 rw [e0] at h2
 generalize w1.alloc (.cells #[.int .u8 5] 5) = w2 at *
 have h1s := h1.s; have h2s := h2.s
 have hb3 := aB w2 (.cells #[.slice (some ⟨w.heap.size + 1, 0, none⟩) 1 1, .slice (some ⟨w.heap.size, 0, none⟩) 2 2] 22)
 have ho : OwnP (w2.alloc (.cells #[.slice (some ⟨w.heap.size + 1, 0, none⟩) 1 1, .slice (some ⟨w.heap.size, 0, none⟩) 2 2] 22)) w2.heap.size (.slice (some ⟨w2.heap.size, 0, none⟩) 2 2) [⟨some ⟨w.heap.size + 1, 0, none⟩, 1, 1, [5]⟩, ⟨some ⟨w.heap.size, 0, none⟩, 2, 2, t⟩] :=
  ⟨by simp, .inr ⟨w2.heap.size, 2, _, rfl, Nat.le_refl _, heap_alloc_new w2 _, Nat.le_refl _, by unfold maxLen; simp, rfl, by simp [Part.val]⟩⟩
 have hs3 := aK w2 (.cells #[.slice (some ⟨w.heap.size + 1, 0, none⟩) 1 1, .slice (some ⟨w.heap.size, 0, none⟩) 2 2] 22)
 generalize w2.alloc (.cells #[.slice (some ⟨w.heap.size + 1, 0, none⟩) 1 1, .slice (some ⟨w.heap.size, 0, none⟩) 2 2] 22) = w3 at *
 refine ⟨(h1.r.below h2.b (by omega)).below hb3 (by omega), by have := h2.r; rw [h1s] at this; exact this.below hb3 (by omega), ?_, h1.b.trans ((h2.b.mono (by omega)).trans (hb3.mono (by omega))), by omega⟩
 rw [show w2.heap.size = w.heap.size + 1 + 1 by omega] at ho
 exact ho
def EN (q : Nat) (leaf : Int) : List Part := [⟨some ⟨q + 1, 0, none⟩, 1, 1, [5]⟩, ⟨some ⟨q, 0, none⟩, 2, 2, [lb1 leaf, lb0 leaf]⟩]
theorem pE (leaf : Int) (sp : Option Addr) (n cap : Nat) (l : List (List Int)) (w : World) (hl : HvsIn w w.heap.size sp n cap l) (hn : n ≤ 1000) (hk : KayIn w) (hk0 : 1 < w.heap.size) :
 Calls Tryz.prog 131 #[.int .i64 leaf, .slice sp n cap] w fun e w' => e = .returned (.agg (hvA (EQ leaf l))) ∧ Below w.heap.size w w' := by
 have HK := zh hk; have HLV := zh hl
 obtain ⟨eb, eo, hpl⟩ := hl.place
 have HPL := zh hpl
 clear hk hl hpl
 have HN := zh (heap_alloc_new w (.cells (Array.replicate 16 (Value.int .u8 0)) 54))
 have HB := zh (aB w (.cells (Array.replicate 16 (Value.int .u8 0)) 54))
 have HS := zh (aK w (.cells (Array.replicate 16 (Value.int .u8 0)) 54))
 go_enter Tryz.func131, Tryz.ntmps131
 go_wp2_with fail
 generalize hw0 : World.alloc w _ = w0
 have HZ0 : Hid (w0.heap[w.heap.size]? = some (.cells (Array.replicate 16 (Value.int .u8 0)) 54 (0, 0))) := by rw [← hw0]; exact HN.out
 have HB0 : Hid (Below w.heap.size w w0) := by rw [← hw0]; exact HB.out
 have HS0 : Hid (w0.heap.size = w.heap.size + 1) := by rw [← hw0]; exact HS.out
 clear hw0 HN HB HS
 generalize hb : w.heap.size = b at *
 have HBZ := zh hb; clear hb
 refine (iZ leaf w0).mono ?_
 rintro e w1 ⟨rfl, hb1⟩
 have HB1 := zh hb1; clear hb1
 have hz0 : b + 1 ≤ w0.heap.size := Nat.le_of_eq HS0.out.symm
 have hz1 : b + 1 ≤ w1.heap.size := by have h1 := HB1.out.size; omega
 have HN := zh (yX w1 [lb1 leaf, lb0 leaf])
 go_wp2_with fail
 generalize hw4 : World.alloc (World.alloc (World.alloc w1 _) _) _ = w4
 have H4 : Hid (OW w1 [lb1 leaf, lb0 leaf] w4) := by rw [← hw4]; exact HN.out
 clear hw4 HN
 generalize hq : w1.heap.size = q at *
 have HQ := zh hq; clear hq
 have HBE : Hid (Below b w w4) := by have h := H4.out.b; exact HB0.out.trans ((HB1.out.mono (by omega)).trans (h.mono (by have := HQ.out; omega)))
 have hbq : b < q := by omega
 have HZ4 : Hid (w4.heap[b]? = some (.cells (Array.replicate 16 (Value.int .u8 0)) 54 (0, 0))) := by
  have h := H4.out.b; exact (h.block b (by have := HQ.out; omega)).trans ((HB1.out.block b (by omega)).trans HZ0.out)
 have HR1 : Hid (RowIn w4 q 190 .u8 [lb1 leaf, lb0 leaf]) := by rw [← HQ.out]; exact H4.out.r1
 have HR2 : Hid (RowIn w4 (q + 1) 5 .u8 [5]) := by rw [← HQ.out]; exact H4.out.r2
 have HO : Hid (OwnP w4 (q + 2) (.slice (some ⟨q + 1 + 1, 0, none⟩) 2 2) (EN q leaf)) := by rw [← HQ.out]; exact H4.out.o
 have hz4 : q + 2 ≤ w4.heap.size := by have := H4.out.s; have := HQ.out; omega
 clear HB1 HB0 HZ0 HS0 hz0 hz1 H4 HQ
 have HLW : Hid (HvsIn w4 b sp n cap l) := HLV.out.below HBE.out (Nat.le_refl _)
 go_loopw [6, 15] (fun v i wr => ∃ k : Nat, k ≤ n ∧ i = .int .i64 k ∧ Hid (OwnP wr (q + 2) v (EN q leaf ++ (List.range k).map (zZ eb eo l))) ∧ Hid (Below (q + 2) w4 wr)) (fun _ i _ => n - (intOf i).toNat)
 case atStart => exact ⟨0, Nat.zero_le _, rfl, HO.out, Below.refl _ _⟩
 case round =>
  clear HO
  rename_i v _
  obtain ⟨k, hkn, rfl, HOW, HBR⟩ := hrel
  have hbr := HBR.out.size
  have hszq : q + 2 ≤ wr.heap.size := by omega
  clear hbr
  by_cases hlt : k < n
  ·obtain rfl := HPL.out (by omega)
   have hd : decide ((k : Int) < (n : Int)) = true := by simp; omega
   have p1 : (0 : Int) ≤ (k : Int) := by omega
   have p2 : (k : Int) < (n : Int) := by omega
   have HSN := zh (eL (zZ eb eo l) k)
   have HLN : Hid ((EN q leaf ++ (List.range k).map (zZ eb eo l)).length ≤ 1000000000) := by
    show _ ≤ _; simp only [EN, List.length_append, List.length_map, List.length_range, List.length_cons, List.length_nil]; omega
   go_wp2_with (at_builtin; refine jH rfl (.tmp 18) (.tmp 23) rfl (q + 2) _ _ rfl HOW.out (zZ eb eo l k) rfl HLN.out hszq ?_; intro v' w' HO' HB' HG')
   go_roundw
   case rel => exact ⟨k + 1, by omega, by go_num, by rw [HSN.out, ← List.append_assoc]; exact HO', HBR.out.trans HB'.out⟩
   case measure => simp [intOf]; omega
  ·obtain rfl : k = n := by omega
   have hd : decide ((k : Int) < (k : Int)) = false := by simp
   obtain ⟨sp', cap', rfl⟩ := aZ HOW.out
   have HLK : Hid ((EN q leaf ++ (List.range k).map (zZ eb eo l)).length = k + 2) := by
    show _ = _; simp only [EN, List.length_append, List.length_map, List.length_range, List.length_cons, List.length_nil]; omega
   have HKK : Hid (KayIn wr) := HK.out.below (HBE.out.trans (HBR.out.mono (by omega))) hk0
   have HCT : Hid (cat (EN q leaf ++ (List.range k).map (zZ eb eo l)) = [5] ++ [lb1 leaf, lb0 leaf] ++ l.flatten) := by
    show _ = _
    have h := GM eb eo l
    rw [HLV.out.len] at h
    rw [← h]
    simp [cat, EN]
   have HPS : Hid (PartsIn wr wr.heap.size sp' (k + 2) (EN q leaf ++ (List.range k).map (zZ eb eo l))) := by
    have ho := HOW.out
    rw [HLK.out] at ho
    refine ho.parts HLK.out ?_
    intro y hy
    rcases List.mem_append.1 hy with hy | hy
    ·simp only [EN, List.mem_cons, List.not_mem_nil, or_false] at hy
     rcases hy with rfl | rfl
     ·exact vH (HR2.out.below HBR.out (by omega)) (fun z hz => by rw [List.mem_singleton.1 hz]; omega) (by omega) rfl
     ·exact vH (HR1.out.below HBR.out (by omega)) (kU _ _) (by omega) rfl
    ·obtain ⟨i, hi, rfl⟩ := List.mem_map.1 hy
     have hi2 : i < k := List.mem_range.1 hi
     obtain rfl := HPL.out (by omega)
     exact (yC (HLW.out.below HBR.out (by omega)) hi2).more (by omega)
   have HBD : Hid (([5] ++ [lb1 leaf, lb0 leaf] ++ l.flatten).length ≤ 1099511627776) := by
    show _ ≤ _; simp only [List.length_append, mO l HLV.out.ok, HLV.out.len, List.length_cons, List.length_nil]; omega
   have HCH := zh (yP sp' (k + 2) cap' _ wr HPS.out HKK.out (by omega) (by rw [HCT.out]; exact HBD.out) (by omega))
   rw [HCT.out, HLK.out] at *
   have HCH2 : Hid (Calls Tryz.prog 132 #[.slice sp' (k + 2) cap'] wr fun e w' => e = .returned (.agg (hvA (EQ leaf l))) ∧ Below wr.heap.size wr w') := HCH.out
   clear HCH HPS HCT HOW HBD
   have HZR : Hid (wr.heap[b]? = some (.cells (Array.replicate 16 (Value.int .u8 0)) 54 (0, 0))) := (HBR.out.block b (by omega)).trans HZ4.out
   have HBW : Hid (Below b w wr) := HBE.out.trans (HBR.out.mono (by omega))
   go_wp2_with fail
   refine HCH2.out.mono ?_
   rintro e w6 ⟨rfl, hb6⟩
   have HZ6 : Hid (w6.heap[b]? = some (.cells (Array.replicate 16 (Value.int .u8 0)) 54 (0, 0))) := (hb6.block b (by omega)).trans HZR.out
   have HB6 : Hid (Below b w w6) := HBW.out.trans (hb6.mono (by omega))
   clear hb6
   go_wp2_with (refine wpList_store_row rfl 54 _ _ rfl b _ rfl rfl 54 _ HZ6.out (aN (iB _ _)) (dH (iB _ _)) (dG _) ?_)
   exact bodyPost_ret (results_cell_row (P := Tryz.prog) rfl _ _ b 54 _ (0, 0) _ rfl (setRow_heap _ _ _ _ _ _ HZ6.out) Tryz.underlying54 rfl (aN (iB _ _))) rfl ⟨rfl, by rw [HBZ.out]; exact below_setRow HB6.out (Nat.le_refl _) _⟩
def CopyIn (w : World) (q : Part) : Prop := ∃ g cur, q.sp = some ⟨g, 0, none⟩ ∧ w.heap[g]? = some (.cells cur 5 (0, 0)) ∧ q.b.length = q.n ∧ q.n ≤ q.cap ∧ Byt q.b ∧ cur.toList.take q.n = q.b.map (Value.int .u8)
theorem CopyIn.src {w : World} {q : Part} (h : CopyIn w q) : Src w w.heap.size q.sp q.n q.cap q.b := by
 obtain ⟨g, cur, e, hg, hl, hc, hb, ht⟩ := h
 refine ⟨hl, hb, fun hn => ⟨g, 0, e, (Array.getElem?_eq_some_iff.1 hg).1, hc, fun j hj => ?_⟩⟩
 rw [Nat.zero_add, cell_of_row w g j cur _ _ hg]
 have h1 := fZ q.b (Value.int .u8) j 0 (by omega)
 rw [← ht, List.getElem?_take, if_pos hj] at h1
 simpa using h1
theorem CopyIn.below {w w' : World} {q : Part} (h : CopyIn w q) (hb : Below w.heap.size w w') : CopyIn w' q := by
 obtain ⟨g, cur, e, hg, h⟩ := h
 exact ⟨g, cur, e, (hb.block g (Array.getElem?_eq_some_iff.1 hg).1).trans hg, h⟩
theorem CopyIn.kept {w w' : World} {q : Part} {base : Nat} {v : Value} {ps : List Part} {o : Obj} (h : CopyIn w q) (hp : OwnP w base v ps) (hg : (w.alloc o).grownBy w' v.ownBlock) : CopyIn w' q := by
 obtain ⟨g, cur, e, hc, h⟩ := h
 have hlt := (Array.getElem?_eq_some_iff.1 hc).1
 refine ⟨g, cur, e, (hg.block g (by rw [World.size_alloc]; omega) (fun ek => ?_)).trans ((heap_alloc_old w o hlt).trans hc), h⟩
 obtain ⟨_, ⟨rfl, _⟩ | ⟨g2, cap, cur2, rfl, _, hg2, _⟩⟩ := hp
 ·simp [Value.ownBlock] at ek
 ·have e2 : g = g2 := by simpa [Value.ownBlock] using ek
  subst e2
  rw [hc] at hg2
  injection hg2 with e3
  simp at e3
theorem CopyIn.own {w : World} {base : Nat} {v : Value} {l : List Int} (h : w.ownsRow base 5 1 v l.length (l.map (Value.int .u8))) (hb : Byt l) (hn : 0 < l.length) : ∃ sp cap, v = .slice sp l.length cap ∧ CopyIn w ⟨sp, l.length, cap, l⟩ := by
 obtain ⟨_, ⟨_, h0⟩ | ⟨g, cap, cur, rfl, _, hg, hle, _, hsz, htk⟩⟩ := h
 ·omega
 ·exact ⟨_, cap, rfl, g, cur, rfl, hg, rfl, hle, hb, by rw [Nat.mul_one] at htk; exact htk⟩
structure Two3 (w : World) (t : List Int) (w' : World) : Prop where
 r1 : RowIn w' w.heap.size 5 .u8 t
 o : OwnP w' (w.heap.size + 1) (.slice (some ⟨w.heap.size + 1, 0, none⟩) 1 1) [⟨some ⟨w.heap.size, 0, none⟩, 3, 3, t⟩]
 b : Below w.heap.size w w'
 s : w'.heap.size = w.heap.size + 2
theorem EX (w : World) (t : List Int) : Two3 w t ((w.alloc (.cells (t.map (Value.int .u8)).toArray 5)).alloc (.cells #[.slice (some ⟨w.heap.size, 0, none⟩) 3 3] 22)) := by
 have h1 := RowB.new w 5 t
 generalize w.alloc (.cells (t.map (Value.int .u8)).toArray 5) = w1 at *
 have h1s := h1.s
 have hb3 := aB w1 (.cells #[.slice (some ⟨w.heap.size, 0, none⟩) 3 3] 22)
 have ho : OwnP (w1.alloc (.cells #[.slice (some ⟨w.heap.size, 0, none⟩) 3 3] 22)) w1.heap.size (.slice (some ⟨w1.heap.size, 0, none⟩) 1 1) [⟨some ⟨w.heap.size, 0, none⟩, 3, 3, t⟩] :=
  ⟨by simp, .inr ⟨w1.heap.size, 1, _, rfl, Nat.le_refl _, heap_alloc_new w1 _, Nat.le_refl _, by unfold maxLen; simp, rfl, by simp [Part.val]⟩⟩
 have hs3 := aK w1 (.cells #[.slice (some ⟨w.heap.size, 0, none⟩) 3 3] 22)
 generalize w1.alloc (.cells #[.slice (some ⟨w.heap.size, 0, none⟩) 3 3] 22) = w3 at *
 refine ⟨h1.r.below hb3 (by omega), ?_, h1.b.trans (hb3.mono (by omega)), by omega⟩
 rw [show w1.heap.size = w.heap.size + 1 by omega] at ho
 exact ho
theorem rcat (t : List Int) (q : Nat) (cs : List Part) (l : List (List Int)) (h : cs.map Part.b = l) : cat ([⟨some ⟨q, 0, none⟩, 3, 3, t⟩] ++ cs) = t ++ l.flatten := by
 unfold cat; rw [List.map_append, List.flatten_append, h]; simp
def nM (q : Nat) (leaf : Int) : List Part := [⟨some ⟨q, 0, none⟩, 3, 3, [5, leaf / 256 % 256, leaf % 256]⟩]
theorem tL (leaf : Int) (sp : Option Addr) (n cap : Nat) (l : List (List Int)) (w : World) (hl : HvsIn w w.heap.size sp n cap l) (hn : n ≤ 1000) :
 Calls Tryz.prog 137 #[.int .i64 leaf, .slice sp n cap] w fun e w' => e = .returned (.agg (hvA (EQ leaf l))) ∧ Below w.heap.size w w' := by
 have HLV := zh hl
 obtain ⟨eb, eo, hpl⟩ := hl.place
 have HPL := zh hpl
 clear hl hpl
 have HN := zh (heap_alloc_new w (.cells (Array.replicate 16 (Value.int .u8 0)) 54))
 have HB := zh (aB w (.cells (Array.replicate 16 (Value.int .u8 0)) 54))
 have HS := zh (aK w (.cells (Array.replicate 16 (Value.int .u8 0)) 54))
 have HTR := zh (EX (w.alloc (.cells (Array.replicate 16 (Value.int .u8 0)) 54)) [5, leaf / 256 % 256, leaf % 256])
 have HRB := zh (fun w : World => (show (Instr.buildSlice 22 0 #[]).run Tryz.prog w = .ok (.slice (some ⟨w.heap.size, 0, none⟩) 0 0) (w.alloc (.cells #[] 5)) by kernel_rfl))
 go_enter Tryz.func137, Tryz.ntmps137
 go_wp2_with fail
 generalize hw4 : World.alloc (World.alloc (World.alloc w _) _) _ = w4
 have H4 : Hid (Two3 (w.alloc (.cells (Array.replicate 16 (Value.int .u8 0)) 54)) [5, leaf / 256 % 256, leaf % 256] w4) := by
  rw [← hw4]; have h := HTR.out; rw [World.size_alloc] at h; exact h
 clear hw4 HTR
 generalize hw0 : World.alloc w _ = w0 at *
 generalize hb : w.heap.size = b at *
 have HBZ := zh hb; clear hb
 have hsz0 : w0.heap.size = b + 1 := HS.out
 have HBE : Hid (Below b w w4) := by have h := H4.out.b; exact HB.out.trans (h.mono (by omega))
 have HZ4 : Hid (w4.heap[b]? = some (.cells (Array.replicate 16 (Value.int .u8 0)) 54 (0, 0))) := by
  have h := H4.out.b; exact (h.block b (by omega)).trans HN.out
 have HR1 : Hid (RowIn w4 (b + 1) 5 .u8 [5, leaf / 256 % 256, leaf % 256]) := by rw [← hsz0]; exact H4.out.r1
 have HO : Hid (OwnP w4 (b + 2) (.slice (some ⟨b + 1 + 1, 0, none⟩) 1 1) (nM (b + 1) leaf)) := by have h := H4.out.o; rw [hsz0] at h; exact h
 have hz4 : b + 2 ≤ w4.heap.size := by have := H4.out.s; omega
 clear HB HN HS hw0 H4 hsz0
 clear w0
 have HLW : Hid (HvsIn w4 b sp n cap l) := HLV.out.below HBE.out (Nat.le_refl _)
 go_loopw [5, 6] (fun v i wr => ∃ (k : Nat) (cs : List Part), k ≤ n ∧ i = .int .i64 k ∧ Hid (cs.map Part.b = l.take k) ∧ Hid (OwnP wr (b + 2) v (nM (b + 1) leaf ++ cs)) ∧ Hid (∀ q ∈ cs, CopyIn wr q) ∧ Hid (Below (b + 2) w4 wr)) (fun _ i _ => n - (intOf i).toNat)
 case atStart => exact ⟨0, [], Nat.zero_le _, rfl, rfl, HO.out, by intro q hq; simp at hq, Below.refl _ _⟩
 case round =>
  clear HO
  rename_i v _
  obtain ⟨k, cs, hkn, rfl, HCS, HOW, HCP, HBR⟩ := hrel
  have hbr := HBR.out.size
  have hszq : b + 2 ≤ wr.heap.size := by omega
  clear hbr
  have HCL : Hid (cs.length = k) := by
   show _ = _; have h := congrArg List.length HCS.out; have h2 := HLV.out.len
   rw [List.length_map, List.length_take] at h; omega
  by_cases hlt : k < n
  ·obtain rfl := HPL.out (by omega)
   have hd : decide ((k : Int) < (n : Int)) = true := by simp; omega
   have p1 : (0 : Int) ≤ (k : Int) := by omega
   have p2 : (k : Int) < (n : Int) := by omega
   have HES : Hid (Src wr (b + 2) (some ⟨eb, eo + k * 16, none⟩) 16 16 (l.getD k [])) := yC (HLW.out.below HBR.out (by omega)) hlt
   have H16 := zh (HLV.out.at16 hlt)
   have HTK : Hid (l.take (k + 1) = l.take k ++ [l.getD k []]) := by
    show _ = _; rw [List.take_succ_eq_append_getElem (by have := HLV.out.len; omega), List.getD_eq_getElem?_getD, List.getElem?_eq_getElem (by have := HLV.out.len; omega)]; rfl
   generalize l.getD k [] = y at *
   have HYL := zh H16.out.1
   have HLN : Hid ((nM (b + 1) leaf ++ cs).length ≤ 1000000000) := by
    show _ ≤ _; have := HCL.out; simp only [nM, List.length_append, List.length_cons, List.length_nil]; omega
   go_wp2_with (first
    | (refine eD rfl 22 5 rfl HRB.out ?_; intro v1 w1 hv1 hw1; have hb1 : Below wr.heap.size wr w1 := (by rw [hw1.out]; exact aB _ _); have HO1 : Hid (w1.ownsRow wr.heap.size 5 1 v1 0 []) := (by rw [hv1.out, hw1.out]; exact World.ownsRow_made wr #[] 0 (Nat.le_refl _) (by unfold maxLen; omega) rfl); have hs1 := hb1.size; have HS1 := zh (HES.out.below hb1 (by omega)); have HB1 := zh hb1; clear hv1 hw1 hb1)
    | (at_builtin; refine eE rfl (.tmp 21) (.tmp 25) 22 5 rfl Tryz.underlying22 Tryz.info5a wr.heap.size _ [] rfl HO1.out (some ⟨eb, eo + k * 16, none⟩) 16 (b + 2) y (by rw [HYL.out]; rfl) (by rw [HYL.out]; exact HS1.out) (fun h => by cases h) (by rw [HYL.out]; simp) hs1 ?_; intro v2 w2 hown2 hg2 hx2; clear hx2; have hb2 := HB1.out.grown hg2 hs1 (iN HO1.out); have hown3 : w2.ownsRow wr.heap.size 5 1 v2 y.length (y.map (Value.int .u8)) := hown2.out; obtain ⟨sp2, cap2, rfl, hcp2⟩ := CopyIn.own hown3 H16.out.2 (by rw [HYL.out]; decide); have HO2 : Hid (OwnP w2 (b + 2) _ (nM (b + 1) leaf ++ cs)) := eN HOW.out hb2; have hs2 := hb2.size; have hsz2 : b + 2 ≤ w2.heap.size := (by omega); have HCP2 := zh hcp2; have HB2 := zh hb2; clear hown2 hown3 hcp2 hg2 hb2 hs2 hs1)
    | (at_builtin; refine jH rfl (.tmp 20) (.tmp 27) rfl (b + 2) _ _ rfl HO2.out ⟨sp2, y.length, cap2, y⟩ rfl HLN.out hsz2 ?_; intro v' w' HO' HB' HG'))
   go_roundw
   case rel =>
    refine ⟨k + 1, cs ++ [⟨sp2, y.length, cap2, y⟩], by omega, by go_num, ?_, by rw [← List.append_assoc]; exact HO', ?_, HBR.out.trans ((HB2.out.mono (by omega)).trans HB'.out)⟩
    ·show _ = _; rw [HTK.out, List.map_append, HCS.out]; rfl
    ·intro q hq
     rcases List.mem_append.1 hq with hq | hq
     ·exact ((HCP.out q hq).below HB2.out).kept HO2.out HG'.out
     ·rw [List.mem_singleton.1 hq]; exact HCP2.out.kept HO2.out HG'.out
   case measure => simp [intOf]; omega
  ·obtain rfl : k = n := by omega
   have hd : decide ((k : Int) < (k : Int)) = false := by simp
   obtain ⟨sp', cap', rfl⟩ := aZ HOW.out
   have HLK : Hid ((nM (b + 1) leaf ++ cs).length = k + 1) := by
    show _ = _; have := HCL.out; simp only [nM, List.length_append, List.length_cons, List.length_nil]; omega
   have HCT : Hid (cat (nM (b + 1) leaf ++ cs) = [5, leaf / 256 % 256, leaf % 256] ++ l.flatten) := by
    refine rcat _ _ _ _ ?_
    rw [HCS.out, List.take_of_length_le (by have := HLV.out.len; omega)]
   have HPS : Hid (PartsIn wr wr.heap.size sp' (k + 1) (nM (b + 1) leaf ++ cs)) := by
    have ho := HOW.out
    rw [HLK.out] at ho
    refine ho.parts HLK.out ?_
    intro y hy
    rcases List.mem_append.1 hy with hy | hy
    ·rw [nM, List.mem_singleton] at hy
     subst hy
     exact vH (HR1.out.below HBR.out (by omega)) (fun z hz => by
      simp only [List.mem_cons, List.not_mem_nil, or_false] at hz
      rcases hz with rfl | rfl | rfl <;> omega) (by omega) rfl
    ·exact (HCP.out y hy).src
   have HNL : Hid (∀ q ∈ nM (b + 1) leaf ++ cs, q.sp = none → q.cap = 0) := by
    intro q hq hn
    rcases List.mem_append.1 hq with hq | hq
    ·rw [nM, List.mem_singleton] at hq; subst hq; cases hn
    ·obtain ⟨g, cur, e, _⟩ := HCP.out q hq; rw [e] at hn; cases hn
   have HBD : Hid (([5, leaf / 256 % 256, leaf % 256] ++ l.flatten).length ≤ 1099511627776) := by
    show _ ≤ _; simp only [List.length_append, mO l HLV.out.ok, HLV.out.len, List.length_cons, List.length_nil]; omega
   have HCH := zh (tI sp' (k + 1) cap' _ wr HPS.out HNL.out (by rw [HCT.out]; exact HBD.out) (by omega))
   rw [HCT.out, HLK.out] at *
   have HCH2 : Hid (Calls Tryz.prog 138 #[.slice sp' (k + 1) cap'] wr fun e w' => e = .returned (.agg (hvA (EQ leaf l))) ∧ Below wr.heap.size wr w') := HCH.out
   clear HCH HPS HCT HOW HBD HNL
   have HZR : Hid (wr.heap[b]? = some (.cells (Array.replicate 16 (Value.int .u8 0)) 54 (0, 0))) := (HBR.out.block b (by omega)).trans HZ4.out
   have HBW : Hid (Below b w wr) := HBE.out.trans (HBR.out.mono (by omega))
   go_wp2_with fail
   refine HCH2.out.mono ?_
   rintro e w6 ⟨rfl, hb6⟩
   have HZ6 : Hid (w6.heap[b]? = some (.cells (Array.replicate 16 (Value.int .u8 0)) 54 (0, 0))) := (hb6.block b (by omega)).trans HZR.out
   have HB6 : Hid (Below b w w6) := HBW.out.trans (hb6.mono (by omega))
   clear hb6
   go_wp2_with (refine wpList_store_row rfl 54 _ _ rfl b _ rfl rfl 54 _ HZ6.out (aN (iB _ _)) (dH (iB _ _)) (dG _) ?_)
   exact bodyPost_ret (results_cell_row (P := Tryz.prog) rfl _ _ b 54 _ (0, 0) _ rfl (setRow_heap _ _ _ _ _ _ HZ6.out) Tryz.underlying54 rfl (aN (iB _ _))) rfl ⟨rfl, by rw [HBZ.out]; exact below_setRow HB6.out (Nat.le_refl _) _⟩
def yS : Array Value := (List.replicate 1088 (Value.int .u8 0)).toArray
theorem IK (w : World) : (zeroValue 163).run Tryz.prog w = .ok (.agg yS) w := by kernel_rfl
theorem dY {B b : Nat} {a : World} (hb : B ≤ b) : ∀ (vs : List Value) (o : Nat) (w : World), Below B a w → Below B a (w.setCells b o vs)
 | [], _, _, h => h
 | v :: r, o, w, h => dY hb r (o + 1) _ (h.setCell (by exact hb) v)
structure EndsIn (w : World) (g k : Nat) (E : Nat → List Int) : Prop where
 got : ∀ i, i < k → w.rangeAt g (i * 16) ((E i).map (Value.int .u8))
 room : w.there g 0 1088
theorem EndsIn.below {w w' : World} {g k B : Nat} {E : Nat → List Int} (h : EndsIn w g k E) (hb : Below B w w') (hg : g < B) : EndsIn w' g k E :=
 ⟨fun i hi => aA (h.got i hi) hb hg, jM h.room hb hg⟩
theorem EndsIn.at_ {w : World} {g k : Nat} {E : Nat → List Int} (h : EndsIn w g k E) (hk : k < 68) : w.there g (k * 16) 16 := fun j hj => by
 have := h.room (k * 16 + j) (by omega)
 rw [Nat.zero_add] at this
 exact this
theorem EndsIn.put {w : World} {g k : Nat} {E : Nat → List Int} (h : EndsIn w g k E) (hE : ∀ i, i < 68 → H16 (E i)) (hk : k < 68) : EndsIn (w.setCells g (k * 16) ((E k).map (Value.int .u8))) g (k + 1) E := by
 have hl : ∀ i, i < 68 → ((E i).map (Value.int .u8)).length = 16 := fun i hi => by rw [List.length_map, (hE i hi).1]
 refine ⟨fun i hi => ?_, World.there_setCells h.room _ _ _⟩
 by_cases e : i = k
 ·subst e
  refine World.rangeAt_setCells_same _ _ _ _ ?_
  rw [hl _ hk]; exact h.at_ hk
 ·exact World.rangeAt_setCells_apart (h.got i (by omega)) _ _ _ (Or.inr (by rw [hl i (by omega), hl k hk]; omega))
theorem EndsIn.hvs {w : World} {g : Nat} {E : Nat → List Int} (h : EndsIn w g 68 E) (hE : ∀ i, i < 68 → H16 (E i)) (hg : g < w.heap.size) : HvsIn w w.heap.size (some ⟨g, 0, none⟩) 68 68 ((List.range 68).map E) :=
 ⟨by simp, fun x hx => by obtain ⟨i, hi, rfl⟩ := List.mem_map.1 hx; exact hE i (List.mem_range.1 hi), fun _ => ⟨g, 0, rfl, hg, Nat.le_refl _, fun i hi => by
  have e : ((List.range 68).map E).getD i [] = E i := by simp [List.getD_eq_getElem?_getD, hi]
  rw [e, Nat.zero_add]; exact h.got i hi⟩⟩
structure Box3 (w : World) (x : List Int) (w0 : World) : Prop where
 x : w0.heap[w.heap.size]? = some (.cells (hvA x) 54 (0, 0))
 z : w0.heap[w.heap.size + 1]? = some (.cells (Array.replicate 16 (Value.int .u8 0)) 54 (0, 0))
 e : w0.there (w.heap.size + 2) 0 1088
 b : Below w.heap.size w w0
 s : w0.heap.size = w.heap.size + 3
theorem xB (w : World) (t : TypeId) : (w.alloc (.cells yS t)).there w.heap.size 0 1088 := fun j hj => by
 rw [Nat.zero_add]
 have hg := heap_alloc_new w (.cells yS t)
 refine ⟨?_, frozen_of_row _ _ _ _ _ hg⟩
 rw [cell_of_row _ w.heap.size j _ _ _ hg]
 have e : yS[j]? = some (Value.int .u8 0) := by
  unfold yS
  rw [List.getElem?_toArray, List.getElem?_replicate, if_pos hj]
 rw [e]; rfl
theorem Box3.new (w : World) (x : List Int) : Box3 w x (((w.alloc (.cells (hvA x) 54)).alloc (.cells (Array.replicate 16 (Value.int .u8 0)) 54)).alloc (.cells yS 163)) := by
 have h := Two.new w x
 generalize (w.alloc (.cells (hvA x) 54)).alloc (.cells (Array.replicate 16 (Value.int .u8 0)) 54) = w1 at *
 have h2 := xB w1 163
 have b2 := aB w1 (.cells yS 163)
 have s2 := aK w1 (.cells yS 163)
 generalize w1.alloc (.cells yS 163) = w2 at *
 have hs := h.s
 rw [hs] at h2
 exact ⟨(b2.block _ (by omega)).trans h.x, (b2.block _ (by omega)).trans h.z, h2, h.b.trans (b2.mono (by omega)), by omega⟩
def sN (x : List Int) (leaf : Int) (i : Nat) : List Int := dJ (sM x leaf i) leaf i 0 3
def EO (x : List Int) (leaf : Int) : List Int := EQ leaf ((List.range 68).map (sN x leaf))
theorem lT (x : List Int) (leaf : Int) (i : Nat) : H16 (sN x leaf i) := mS (dL _ _ _) _ _ _ _
theorem fI (x : List Int) (leaf : Int) : H16 (EO x leaf) := iB _ _
theorem zQ (x : List Int) (leaf : Int) (w : World) (hs : H16 x) (hk : KayIn w) (hk0 : 1 < w.heap.size) :
 Calls Tryz.prog 143 #[.agg (hvA x), .int .i64 leaf] w fun e w' => e = .returned (.agg (hvA (EO x leaf))) ∧ Below w.heap.size w w' := by
 have HK := zh hk; have HS := zh hs; clear hs hk
 have HT := zh (Box3.new w x)
 have hz := IK
 go_enter Tryz.func143, Tryz.ntmps143
 go_wp2_with fail
 clear hz
 generalize hw0 : World.alloc (World.alloc (World.alloc w _) _) _ = w0
 have HT0 : Hid (Box3 w x w0) := by rw [← hw0]; exact HT.out
 clear hw0 HT
 generalize hb : w.heap.size = b at *
 have HBZ := zh hb; clear hb
 have HX0 : Hid (w0.heap[b]? = some (.cells (hvA x) 54 (0, 0))) := by have h := HT0.out.x; rw [HBZ.out] at h; exact h
 have HZ0 : Hid (w0.heap[b + 1]? = some (.cells (Array.replicate 16 (Value.int .u8 0)) 54 (0, 0))) := by have h := HT0.out.z; rw [HBZ.out] at h; exact h
 have HE0 : Hid (w0.there (b + 1 + 1) 0 1088) := by have h := HT0.out.e; rw [HBZ.out] at h; exact h
 have HB0 : Hid (Below b w w0) := by have h := HT0.out.b; rw [HBZ.out] at h; exact h
 have hz0 : b + 3 ≤ w0.heap.size := by have h := HT0.out.s; have := HBZ.out; omega
 have HK0 : Hid (KayIn w0) := HK.out.below HB0.out hk0
 clear HT0 HK
 go_loopw [7] (fun i wr => ∃ k : Nat, k ≤ 68 ∧ i = .int .i64 k ∧ Hid (EndsIn wr (b + 1 + 1) k (sN x leaf)) ∧ Hid (Below (b + 1 + 1) w0 wr)) (fun i _ => 68 - (intOf i).toNat)
 case atStart => exact ⟨0, by omega, rfl, ⟨fun i hi => absurd hi (by omega), HE0.out⟩, Below.refl _ _⟩
 case round =>
  clear HE0
  obtain ⟨k, hk, rfl, HER, HBR⟩ := hrel
  have hszr : b + 3 ≤ wr.heap.size := by have := HBR.out.size; omega
  have HKR : Hid (KayIn wr) := HK0.out.below HBR.out (by omega)
  have hkr : 1 < wr.heap.size := by omega
  by_cases hlt : k < 68
  ·have HXR : Hid (wr.heap[b]? = some (.cells (hvA x) 54 (0, 0))) := (HBR.out.block b (by omega)).trans HX0.out
   have hd1 : decide ((k : Int) < 68) = true := by simp; omega
   have p1 : (0 : Int) ≤ (k : Int) := by omega
   have p2 : (k : Int) < 68 := by omega
   go_wp2_with (refine wpList_load_row rfl 54 _ rfl b rfl 54 _ (0, 0) _ HXR.out Tryz.underlying54 rfl (aN HS.out) ?_)
   refine (qG x leaf k wr HS.out HKR.out hkr).mono ?_
   rintro e w5 ⟨rfl, hb5⟩
   have HB5 := zh hb5; clear hb5
   have HK5 : Hid (KayIn w5) := HKR.out.below HB5.out hkr
   have hk5 : 1 < w5.heap.size := by have := HB5.out.size; omega
   go_wp2_with fail
   refine (pG (sM x leaf k) leaf k 0 3 w5 (dL _ _ _) HK5.out hk5).mono ?_
   rintro e w6 ⟨rfl, hb6⟩
   have HB6 : Hid (Below wr.heap.size wr w6) := HB5.out.trans (hb6.mono HB5.out.size)
   clear hb6
   have HE6 : Hid (EndsIn w6 (b + 1 + 1) k (sN x leaf)) := HER.out.below HB6.out (by omega)
   have HEE : Hid (dJ (sM x leaf k) leaf k 0 3 = sN x leaf k) := rfl
   rw [HEE.out]
   have HSE : Hid ((hvA (sN x leaf k)).size = 16) := by show _ = _; simp [hvA, (lT x leaf k).1]
   go_wp2_with (refine wpList_store_mid rfl 54 _ _ rfl (b + 1 + 1) (k * 16) (hvA (sN x leaf k)) rfl rfl (by rw [HSE.out]; exact HE6.out.at_ hlt) (aN (lT _ _ _)) (dG _) ?_; generalize hw7 : World.setCells w6 _ _ _ = w7; have HE7 : Hid (EndsIn w7 (b + 1 + 1) (k + 1) (sN x leaf)) := (by rw [← hw7]; exact HE6.out.put (fun i _ => lT _ _ i) hlt); have HB7 : Hid (Below (b + 1 + 1) w0 w7) := (by rw [← hw7]; exact dY (Nat.le_refl _) _ _ _ (HBR.out.trans (HB6.out.mono (by omega)))); clear hw7)
   go_roundw
   case rel => exact ⟨k + 1, by omega, by go_num, HE7, HB7⟩
   case measure => simp [intOf]; omega
  ·obtain rfl : k = 68 := by omega
   have hd1 : decide (((68 : Nat) : Int) < 68) = false := by simp
   have HHV := zh (HER.out.hvs (fun i _ => lT x leaf i) (by omega))
   have HZR : Hid (wr.heap[b + 1]? = some (.cells (Array.replicate 16 (Value.int .u8 0)) 54 (0, 0))) := (HBR.out.block _ (by omega)).trans HZ0.out
   have HBW : Hid (Below b w wr) := HB0.out.trans (HBR.out.mono (by omega))
   go_wp2_with fail
   refine (pE leaf _ 68 68 _ wr HHV.out (by omega) HKR.out hkr).mono ?_
   rintro e w6 ⟨rfl, hb6⟩
   have HZ6 : Hid (w6.heap[b + 1]? = some (.cells (Array.replicate 16 (Value.int .u8 0)) 54 (0, 0))) := (hb6.block _ (by omega)).trans HZR.out
   have HB6 : Hid (Below b w w6) := HBW.out.trans (hb6.mono (by omega))
   have HPE : Hid (EQ leaf ((List.range 68).map (sN x leaf)) = EO x leaf) := rfl
   rw [HPE.out]
   clear hb6
   go_wp2_with (refine wpList_store_row rfl 54 _ _ rfl (b + 1) _ rfl rfl 54 _ HZ6.out (aN (fI _ _)) (dH (fI _ _)) (dG _) ?_)
   exact bodyPost_ret (results_cell_row (P := Tryz.prog) rfl _ _ (b + 1) 54 _ (0, 0) _ rfl (setRow_heap _ _ _ _ _ _ HZ6.out) Tryz.underlying54 rfl (aN (fI _ _))) rfl ⟨rfl, by rw [HBZ.out]; exact below_setRow HB6.out (by omega) _⟩
theorem hF {w : World} {o : Oper} {a : Act} {K : Act → World → Prop} {Q : Exit → Act → World → Prop} (s x : Operand)
 (ho : o.op = .call { callee := .builtin .append, args := #[s, x], argTypes := #[58, 58] }) (base : Nat) (v : Value) (l : List (List Int)) (n : Nat) (hn : n = l.length) (hs : a.eval s = v) (hown : OwnHv w base v l)
 (g : Nat) (y : List Int) (hx : a.eval x = .slice (some ⟨g, 0, none⟩) 1 1) (hy : w.rangeAt g 0 (y.map (Value.int .u8))) (hok : H16 y) (hlen : n ≤ 1000000) (hbase : base ≤ w.heap.size)
 (h : ∀ sp cap w', Hid (OwnHv w' base (.slice sp (n + 1) cap) (l ++ [y])) → Hid (Below base w w') → Hid (w.grownBy w' v.ownBlock) → K (a.put o.dst (.slice sp (n + 1) cap)) w') : o.wp Tryz.prog a w K Q := by
 subst hn
 obtain ⟨i0, hi0, hz0, hz1, hz2⟩ := bF qQ
 refine wp_append_own w s x _ ho base _ i0 _ 16 16 Tryz.underlying58 hi0 hz0 hz1 hz2 rfl (by decide) v l.length _ hs hown.1 ⟨g, 0, none⟩ 1 1 (y.map (Value.int .u8)) hx (by rw [List.length_map, hok.1]) ?_ (gG _ _) (by unfold maxLen; omega) (by omega) hbase ?_
 ·intro j u hj
  rw [Addr.add_mid]
  exact hy j u hj
 ·intro v' w' h1 h2 _
  obtain ⟨sp, cap, rfl⟩ := aZ h1
  refine h sp cap w' ⟨by rw [qH, List.length_append]; exact h1, fun z hz => ?_⟩ ((Below.refl base w).grown h2 hbase (bL hown.1)) h2
  rcases List.mem_append.1 hz with hz | hz
  ·exact hown.2 z hz
  ·rw [List.mem_singleton.1 hz]; exact hok
def DgIn (w : World) (g : Nat) (l : List Int) : Prop := ∃ cur, w.heap[g]? = some (.cells cur 3 (0, 0)) ∧ ∀ j, j < l.length → cur[j]? = some (.int .i64 (l.getD j 0))
theorem OwnN.dg {w : World} {base : Nat} {sp : Option Addr} {n cap : Nat} {l : List Int} (h : OwnN w base (.slice sp n cap) l) (hl : l.length = n) (hn : 0 < n) : ∃ g, sp = some ⟨g, 0, none⟩ ∧ base ≤ g ∧ DgIn w g l ∧ n ≤ cap := by
 obtain ⟨h0, h | ⟨g, c, cur, e, hg, h1, h2, h3, h4, h5⟩⟩ := h
 ·have e := h.1; simp only [Value.slice.injEq] at e; omega
 ·simp only [Value.slice.injEq] at e
  obtain ⟨e1, e2, e3⟩ := e
  subst e3
  refine ⟨g, e1, hg, ⟨cur, h1, fun j hj => ?_⟩, by omega⟩
  have h6 : (nv l)[j]? = some (.int .i64 (l.getD j 0)) := by
   unfold nv
   rw [List.getElem?_map, List.getD_eq_getElem?_getD, List.getElem?_eq_getElem hj]; rfl
  rw [← h5, List.getElem?_take, if_pos (by omega)] at h6
  simpa using h6
theorem DgIn.cell {w : World} {g : Nat} {l : List Int} (h : DgIn w g l) {j : Nat} (hj : j < l.length) : w.cell? ⟨g, j, none⟩ = some (.int .i64 (l.getD j 0)) := by
 obtain ⟨cur, h1, h2⟩ := h
 rw [cell_of_row w g j cur _ _ h1]; exact h2 j hj
theorem DgIn.lt {w : World} {g : Nat} {l : List Int} (h : DgIn w g l) : g < w.heap.size := by obtain ⟨cur, h1, _⟩ := h; exact (Array.getElem?_eq_some_iff.1 h1).1
theorem DgIn.below {w w' : World} {g B : Nat} {l : List Int} (h : DgIn w g l) (hb : Below B w w') (hg : g < B) : DgIn w' g l := by
 obtain ⟨cur, h1, h2⟩ := h
 exact ⟨cur, (hb.block g hg).trans h1, h2⟩
theorem DgIn.grown {w w' : World} {g base : Nat} {l : List Int} {v : Value} {hs : List (List Int)} (h : DgIn w g l) (ho : OwnHv w base v hs) (hg : w.grownBy w' v.ownBlock) : DgIn w' g l := by
 have hlt := h.lt
 obtain ⟨cur, h1, h2⟩ := h
 refine ⟨cur, (hg.block g hlt (fun ek => ?_)).trans h1, h2⟩
 obtain ⟨_, ⟨rfl, _⟩ | ⟨g2, cap, cur2, rfl, _, hg2, _⟩⟩ := ho.1
 ·simp [Value.ownBlock] at ek
 ·have e2 : g = g2 := by simpa [Value.ownBlock] using ek
  subst e2
  rw [h1] at hg2
  injection hg2 with e3
  simp at e3
theorem lF {g k : Nat} (hk : k ≠ g) : ∀ (vs : List Value) (o : Nat) (w : World), (w.setCells g o vs).heap[k]? = w.heap[k]?
 | [], _, _ => rfl
 | v :: r, o, w => (lF hk r (o + 1) _).trans (Below.heap_setCell w ⟨g, o, none⟩ v k hk)
theorem DgIn.put {w : World} {g b o : Nat} {l : List Int} {vs : List Value} (h : DgIn w g l) (hne : g ≠ b) : DgIn (w.setCells b o vs) g l := by
 obtain ⟨cur, h1, h2⟩ := h
 exact ⟨cur, (lF hne vs o w).trans h1, h2⟩
theorem LT {d : List Int} (hd : D32 d) {k : Nat} (hk : k < 68) : 0 ≤ (digs d).getD k 0 ∧ (digs d).getD k 0 ≤ 3 := by
 have hl := dE hd.1
 have e : (digs d).getD k 0 = (digs d)[k]'(by omega) := by rw [List.getD_eq_getElem?_getD, List.getElem?_eq_getElem (by omega)]; rfl
 rw [e]; exact AA (List.getElem_mem _)
def vI (x : List Int) (leaf : Int) (d : List Int) (i : Nat) : List Int := dJ (sM x leaf i) leaf i 0 ((digs d).getD i 0)
def fF (x : List Int) (leaf : Int) (d : List Int) : List (List Int) := (List.range 68).map (vI x leaf d)
theorem xI (x : List Int) (leaf : Int) (d : List Int) (i : Nat) : H16 (vI x leaf d i) := mS (dL _ _ _) _ _ _ _
def FM (leaf : Int) (d : List Int) (sig : List (List Int)) (i : Nat) : List Int := dJ (sig.getD i []) leaf i ((digs d).getD i 0) 3
def FN (leaf : Int) (d : List Int) (sig : List (List Int)) : List Int := EQ leaf ((List.range 68).map (FM leaf d sig))
theorem lJ (leaf : Int) (d : List Int) (sig : List (List Int)) : H16 (FN leaf d sig) := iB _ _
theorem vP (x : List Int) (leaf : Int) (w : World) (hs : H16 x) :
 Calls Tryz.prog 128 #[.agg (hvA x), .int .i64 leaf] w fun e w' => e = .returned (.agg (hvA (EO x leaf))) ∧ Below w.heap.size w w' := by
 have HS := zh hs; clear hs
 have HT := zh (Two.new w x)
 go_enter Tryz.func128, Tryz.ntmps128
 go_wp2_with fail
 generalize hw0 : World.alloc (World.alloc w _) _ = w0
 have HT0 : Hid (Two w x w0) := by rw [← hw0]; exact HT.out
 clear hw0 HT
 generalize hb : w.heap.size = b at *
 have HBZ := zh hb; clear hb
 have HX0 : Hid (w0.heap[b]? = some (.cells (hvA x) 54 (0, 0))) := by have h := HT0.out.x; rw [HBZ.out] at h; exact h
 have HZ0 : Hid (w0.heap[b + 1]? = some (.cells (Array.replicate 16 (Value.int .u8 0)) 54 (0, 0))) := by have h := HT0.out.z; rw [HBZ.out] at h; exact h
 have HB0 : Hid (Below b w w0) := by have h := HT0.out.b; rw [HBZ.out] at h; exact h
 have hz0 : b + 2 ≤ w0.heap.size := by have h := HT0.out.s; have := HBZ.out; omega
 clear HT0
 go_loopw [5, 6] (fun v i wr => ∃ k : Nat, k ≤ 68 ∧ i = .int .i64 k ∧ Hid (OwnHv wr (b + 2) v ((List.range k).map (sN x leaf))) ∧ Hid (Below (b + 2) w0 wr)) (fun _ i _ => 68 - (intOf i).toNat)
 case atStart => exact ⟨0, by omega, rfl, OwnHv.nil _ _, Below.refl _ _⟩
 case round =>
  obtain ⟨k, hk, rfl, HOW, HBR⟩ := hrel
  have hszr : b + 2 ≤ wr.heap.size := by have := HBR.out.size; omega
  by_cases hlt : k < 68
  ·have HXR : Hid (wr.heap[b]? = some (.cells (hvA x) 54 (0, 0))) := (HBR.out.block b (by omega)).trans HX0.out
   have hd1 : decide ((k : Int) < 68) = true := by simp; omega
   go_wp2_with (refine wpList_load_row rfl 54 _ rfl b rfl 54 _ (0, 0) _ HXR.out Tryz.underlying54 rfl (aN HS.out) ?_)
   refine (oN x leaf k wr HS.out).mono ?_
   rintro e w5 ⟨rfl, hb5⟩
   have HB5 := zh hb5; clear hb5
   go_wp2_with fail
   refine (qK (sM x leaf k) leaf k 0 3 w5 (dL _ _ _)).mono ?_
   rintro e w6 ⟨rfl, hb6⟩
   have HB6 : Hid (Below wr.heap.size wr w6) := HB5.out.trans (hb6.mono HB5.out.size)
   clear hb6
   have hs6 : b + 2 ≤ w6.heap.size := by have := HB6.out.size; omega
   have HO6 := zh (HOW.out.below HB6.out)
   have HSN := zh (eL (sN x leaf) k)
   have HLK : Hid (k = ((List.range k).map (sN x leaf)).length) := by show _ = _; simp
   have HY := zh (lT x leaf k)
   have HEE : Hid (dJ (sM x leaf k) leaf k 0 3 = sN x leaf k) := rfl
   rw [HEE.out]
   clear HEE
   generalize sN x leaf k = y at *
   go_wp2_with (first
    | (refine bR rfl 58 1 [(0, .tmp 18)] rfl [(0, .agg (hvA y))] rfl _ _ (kW _ y HY.out) ?_; generalize hw7 : World.alloc w6 _ = w7; have hr7 : w7.rangeAt w6.heap.size 0 (y.map (Value.int .u8)) := (by rw [← hw7]; intro j v hv; rw [Nat.zero_add]; exact aH (heap_alloc_new w6 _) hv); have hb7 : Below w6.heap.size w6 w7 := (by rw [← hw7]; exact aB _ _); have HR7 := zh hr7; have HB7 := zh hb7; have HO7 := zh (HO6.out.below hb7); have hs7 := hb7.size; have hs7b : b + 2 ≤ w7.heap.size := (by omega); clear hw7 hr7 hb7)
    | (at_builtin; refine fR rfl (.tmp 11) (.tmp 19) rfl (b + 2) _ _ k HLK.out rfl HO7.out w6.heap.size y rfl HR7.out HY.out (by omega) hs7b ?_; intro sp8 cap8 w8 HO8 HB8 HG8))
   go_roundw
   case rel => exact ⟨k + 1, by omega, by go_num, by rw [HSN.out]; exact HO8, HBR.out.trans ((HB6.out.mono (by omega)).trans ((HB7.out.mono (by omega)).trans HB8.out))⟩
   case measure => simp [intOf]; omega
  ·obtain rfl : k = 68 := by omega
   have hd1 : decide (((68 : Nat) : Int) < 68) = false := by simp
   obtain ⟨sp', cap', rfl⟩ := aZ HOW.out.1
   have MQ : Hid (((List.range 68).map (sN x leaf)).length = 68) := by show _ = _; simp
   have HHV : Hid (HvsIn wr wr.heap.size sp' 68 cap' ((List.range 68).map (sN x leaf))) := by
    have h := HOW.out
    rw [MQ.out] at h
    exact h.hvs MQ.out
   have HZR : Hid (wr.heap[b + 1]? = some (.cells (Array.replicate 16 (Value.int .u8 0)) 54 (0, 0))) := (HBR.out.block _ (by omega)).trans HZ0.out
   have HBW : Hid (Below b w wr) := HB0.out.trans (HBR.out.mono (by omega))
   rw [MQ.out]
   go_wp2_with fail
   refine (tL leaf sp' 68 cap' _ wr HHV.out (by omega)).mono ?_
   rintro e w6 ⟨rfl, hb6⟩
   have HZ6 : Hid (w6.heap[b + 1]? = some (.cells (Array.replicate 16 (Value.int .u8 0)) 54 (0, 0))) := (hb6.block _ (by omega)).trans HZR.out
   have HB6 : Hid (Below b w w6) := HBW.out.trans (hb6.mono (by omega))
   have HPE : Hid (EQ leaf ((List.range 68).map (sN x leaf)) = EO x leaf) := rfl
   rw [HPE.out]
   clear hb6
   go_wp2_with (refine wpList_store_row rfl 54 _ _ rfl (b + 1) _ rfl rfl 54 _ HZ6.out (aN (fI _ _)) (dH (fI _ _)) (dG _) ?_)
   exact bodyPost_ret (results_cell_row (P := Tryz.prog) rfl _ _ (b + 1) 54 _ (0, 0) _ rfl (setRow_heap _ _ _ _ _ _ HZ6.out) Tryz.underlying54 rfl (aN (fI _ _))) rfl ⟨rfl, by rw [HBZ.out]; exact below_setRow HB6.out (by omega) _⟩
end Go.Proofs.YtcligodahogpkaaGreatDoor
