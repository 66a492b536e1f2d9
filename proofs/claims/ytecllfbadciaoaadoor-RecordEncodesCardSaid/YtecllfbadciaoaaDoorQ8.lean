/-
  The walks of digest.Sum, Leaf, Node and Half (conditions: the arguments read as lists of bytes of at most 2^40; the table of constants reads as it is laid).
-/
import Derived.Test.YtecllfbadciaoaaDoorZip
import Derived.Test.YtecllfbadciaoaaDoorQ7
import Derived.Outline
import Derived.Test.YtecllfbadciaoaaDoorQ6
set_option maxRecDepth 100000
set_option maxHeartbeats 8000000
namespace Go.Proofs.YtecllfbadciaoaaDoor
open Go.RowKit
theorem bytes_block {w : World} {g B cap : Nat} {t : TypeId} {L : List Int} (hg : RowIn w g t .u8 L) (hL : Byt L) (hlt : g < B) (hc : L.length ≤ cap) : Src w B (some ⟨g, 0, none⟩) L.length cap L :=
 ⟨rfl, hL, fun _ => ⟨g, 0, rfl, hlt, hc, fun j hj => by rw [Nat.zero_add]; exact hg.get j hj⟩⟩
theorem below_alloc (w : World) (o : Obj) : Below w.heap.size w (w.alloc o) := (Below.refl _ _).alloc (Nat.le_refl _) _
theorem alloc_size (w : World) (o : Obj) : (w.alloc o).heap.size = w.heap.size + 1 := by simp
theorem row_new (w : World) (t : TypeId) (k : IntKind) (L : List Int) : RowIn (w.alloc (.cells (L.map (Value.int k)).toArray t)) w.heap.size t k L := heap_alloc_new _ _
def Zrow (w : World) (b : Nat) : Prop := w.heap[b]? = some (.cells (Array.replicate 32 (Value.int .u8 0)) 44 (0, 0))
theorem Zrow.new (w : World) : Zrow (w.alloc (.cells (Array.replicate 32 (Value.int .u8 0)) 44)) w.heap.size := heap_alloc_new _ _
theorem Zrow.below {w w' : World} {b B : Nat} (h : Zrow w b) (hb : Below B w w') (hlt : b < B) : Zrow w' b := (hb.block b hlt).trans h
theorem Zrow.lt {w : World} {b : Nat} (h : Zrow w b) : b < w.heap.size := (Array.getElem?_eq_some_iff.1 h).1
structure NewZ (w w0 : World) : Prop where
 z : Zrow w0 w.heap.size
 b : Below w.heap.size w w0
 s : w0.heap.size = w.heap.size + 1
theorem NewZ.new (w : World) : NewZ w (w.alloc (.cells (Array.replicate 32 (Value.int .u8 0)) 44)) := ⟨Zrow.new w, below_alloc _ _, alloc_size _ _⟩
def hf (l : List Int) : Array Value := (((dbytes (sha l).list).take 16).map (Value.int .u8)).toArray
theorem src_of_own {w : World} {base e : Nat} {v : Value} {xs : List Int} (h : w.ownsRow base e 1 v xs.length (xs.map (Value.int .u8))) (hx : Byt xs) : ∃ sp cap, v = .slice sp xs.length cap ∧ Src w w.heap.size sp xs.length cap xs ∧ (sp = none → cap = 0) := by
 obtain ⟨_, h | ⟨g, cap, cur, rfl, _, hg, hle, _, hsz, htk⟩⟩ := h
 ·obtain ⟨rfl, h0⟩ := h
  exact ⟨none, 0, by rw [h0], ⟨rfl, hx, fun hn => by omega⟩, fun _ => rfl⟩
 ·refine ⟨_, cap, rfl, ⟨rfl, hx, fun hn => ⟨g, 0, rfl, (Array.getElem?_eq_some_iff.1 hg).1, hle, fun j hj => ?_⟩⟩, fun hh => by cases hh⟩
  rw [Nat.zero_add, cell_of_row w g j cur e _ hg]
  have h1 : (cur.toList.take (xs.length * 1))[j]? = some (.int .u8 (xs.getD j 0)) := by rw [htk]; exact getD_map _ _ _ 0 hj
  rw [List.getElem?_take, if_pos (by omega)] at h1
  simpa using h1
theorem Tryd.info5a : (Tryd.prog.info? 5).map (fun i => (i.zero, i.size, i.bytes)) = some (some (.int .u8 0), 1, 1) := by kernel_rfl
theorem own_shapeC {w : World} {base e size : Nat} {v : Value} {n : Nat} {xs : List Value} (h : w.ownsRow base e size v n xs) : ∃ sp cap, v = .slice sp n cap := by
 obtain ⟨_, ⟨rfl, rfl⟩ | ⟨g, cap, cur, rfl, _⟩⟩ := h
 ·exact ⟨none, 0, rfl⟩
 ·exact ⟨_, cap, rfl⟩
theorem own_baseC {w : World} {base e size : Nat} {v : Value} {n : Nat} {xs : List Value} (h : w.ownsRow base e size v n xs) : ∀ k, v.ownBlock = some k → base ≤ k := fun k hk => (h.lt k hk).1
theorem wpList_append_byte {P : Program} {w : World} {ops : Array Oper} {rest : List Oper} {o : Oper} {a : Act} {Q : Exit → Act → World → Prop} (hgd : o.guard = none) (s x : Operand) (t e : TypeId)
 (ho : o.op = .call { callee := .builtin .append, args := #[s, x], argTypes := #[t, t] }) (ht : P.underlying t = some (.slice e)) (hi : (P.info? e).map (fun i => (i.zero, i.size, i.bytes)) = some (some (.int .u8 0), 1, 1))
 (base : Nat) (v : Value) (xs : List Int) (n : Nat) (hs : a.eval s = v) (hn : n = xs.length) (hown : w.ownsRow base e 1 v n (xs.map (Value.int .u8)))
 (g : Nat) (y : Int) (hx : a.eval x = .slice (some ⟨g, 0, none⟩) 1 1) (hc : w.cell? ⟨g, 0, none⟩ = some (.int .u8 y))
 (hlen : n ≤ 2199023255552) (hbase : base ≤ w.heap.size)
 (h : ∀ sp cap w', Hid (w'.ownsRow base e 1 (.slice sp (n + 1) cap) (n + 1) ((xs ++ [y]).map (Value.int .u8))) → w.grownBy w' v.ownBlock → wpList P ops Q rest (a.put o.dst (.slice sp (n + 1) cap)) w') : wpList P ops Q (o :: rest) a w := by
 obtain ⟨i0, hi0, hz0, hz1, hz2⟩ := info_parts hi
 refine wpList_append_own w hgd s x t ho base e i0 (.int .u8 0) 1 1 ht hi0 hz0 hz1 hz2 rfl (by decide) v n _ hs hown ⟨g, 0, none⟩ 1 1 [.int .u8 y] hx rfl ?_ (by intro u hu; simp at hu; subst hu; rfl) (by unfold maxLen; omega) (by omega) hbase ?_
 ·intro j u hj
  match j, hj with
  | 0, hj => simp at hj; subst hj; rw [Addr.add_mid]; exact hc
 ·intro v' w' h1 h2 _
  obtain ⟨sp, cap, rfl⟩ := own_shapeC h1
  exact h sp cap w' (by show World.ownsRow _ _ _ _ _ _ _; rw [List.map_append]; exact h1) h2
def hexl (n : Nat) : UInt8 := if n < 10 then 48 + n.toUInt8 else 87 + n.toUInt8
def hexB (l : List Int) : List UInt8 := l.flatMap fun x => [hexl (x.toNat / 16), hexl (x.toNat % 16)]
theorem hexB_length (l : List Int) : (hexB l).length = 2 * l.length := by
 induction l with
 | nil => rfl
 | cons a t ih => simp [hexB, List.flatMap_cons] at ih ⊢; omega
theorem hexB_succ (l : List Int) (k : Nat) (h : k < l.length) : hexB (l.take (k + 1)) = hexB (l.take k) ++ [hexl ((l.getD k 0).toNat / 16), hexl ((l.getD k 0).toNat % 16)] := by
 rw [take_snoc0 l k h]; unfold hexB; rw [List.flatMap_append]; simp
theorem cells_of_ownH {w : World} {base e : Nat} {v : Value} {l : List UInt8} (h : w.ownsRow base e 1 v l.length (Lib.byteCells l)) :
 (v = .slice none 0 0 ∧ l = []) ∨ ∃ g cap, v = .slice (some ⟨g, 0, none⟩) l.length cap ∧ base ≤ g ∧ g < w.heap.size ∧ ∀ j (hj : j < l.length), w.cell? ⟨g, j, none⟩ = some (.int .u8 (l[j].toNat : Int)) := by
 obtain ⟨_, ⟨rfl, h0⟩ | ⟨g, cap, cur, rfl, hb, hg, hle, _, hsz, htk⟩⟩ := h
 ·exact .inl ⟨rfl, List.eq_nil_of_length_eq_zero h0⟩
 ·refine .inr ⟨g, cap, rfl, hb, (Array.getElem?_eq_some_iff.1 hg).1, fun j hj => ?_⟩
  rw [cell_of_row w g j cur e _ hg]
  have h1 : (cur.toList.take (l.length * 1))[j]? = some (.int .u8 (l[j].toNat : Int)) := by rw [htk]; simp [Lib.byteCells, List.getElem?_eq_getElem hj]
  rw [List.getElem?_take, if_pos (by omega)] at h1
  simpa using h1
theorem run_string_ownH {w : World} {base e : Nat} {v : Value} {l : List UInt8} (h : w.ownsRow base e 1 v l.length (Lib.byteCells l)) :
 (convert 30 9 v).run Tryd.prog w = .ok (.string ⟨l.toArray⟩) w := by
 rcases cells_of_ownH h with ⟨rfl, rfl⟩ | ⟨g, cap, rfl, _, _, hc⟩
 ·rw [run_convert_bytes_string w 30 9 5 none 0 0 Tryd.underlying30 Tryd.underlying5 Tryd.underlying9]
  kernel_rfl
 ·exact run_convert_bytes_back w 30 9 5 _ cap l Tryd.underlying30 Tryd.underlying5 Tryd.underlying9 (fun j hj => by rw [Addr.add_mid, Nat.zero_add]; exact hc j hj)
theorem hexl_index (n : Nat) (h : n < 16) (w : World) : (Instr.index 9 (.string ⟨#[48, 49, 50, 51, 52, 53, 54, 55, 56, 57, 97, 98, 99, 100, 101, 102]⟩) (.int .u8 (n : Int))).run Tryd.prog w = .ok (.int .u8 ((hexl n).toNat : Int)) w := by
 rcases (by omega : n = 0 ∨ n = 1 ∨ n = 2 ∨ n = 3 ∨ n = 4 ∨ n = 5 ∨ n = 6 ∨ n = 7 ∨ n = 8 ∨ n = 9 ∨ n = 10 ∨ n = 11 ∨ n = 12 ∨ n = 13 ∨ n = 14 ∨ n = 15) with rfl | rfl | rfl | rfl | rfl | rfl | rfl | rfl | rfl | rfl | rfl | rfl | rfl | rfl | rfl | rfl <;> kernel_rfl
theorem cells_newH (w : World) (L : List Value) (t : TypeId) : ∀ j u, L[j]? = some u → ((w.alloc (.cells L.toArray t)).drew).cell? ((⟨w.heap.size, 0, none⟩ : Addr).add j) = some u := by
 intro j u hj
 have h : ((w.alloc (.cells L.toArray t)).drew).heap[w.heap.size]? = some (.cells L.toArray t (0, 0)) := heap_alloc_new w _
 rw [Addr.add_mid, Nat.zero_add, cell_of_row _ w.heap.size j _ t (0, 0) h]
 simpa using hj
theorem step_append_ownH {P : Program} {w : World} {ops : Array Oper} {o : Oper} {a : Act} {K : Act → World → Prop} {Q : Exit → Act → World → Prop} {E : Prop} (hgd : o.guard = none) (s x : Operand) (t : TypeId)
 (ho : o.op = .call { callee := .builtin .append, args := #[s, x], argTypes := #[t, t] })
 (base : Nat) (e : TypeId) (i : TypeInfo) (z : Value) (size bytes : Nat) (ht : P.underlying t = some (.slice e)) (hi : P.info? e = some i) (hz : i.zero = some z)
 (hsize : i.size = size) (hby : i.bytes = bytes) (hzs : z.cells.size = size) (hsz : 0 < size)
 (v : Value) (n : Nat) (xs : List Value) (hs : a.eval s = v) (hown : w.ownsRow base e size v n xs)
 (ad : Addr) (m c : Nat) (news : List Value) (hx : a.eval x = .slice (some ad) m c) (hl : news.length = m * size) (hnews : ∀ j u, news[j]? = some u → w.cell? (ad.add j) = some u) (h1 : ∀ u ∈ news, u.oneCell' = true)
 (h63 : n + m ≤ maxLen) (hbytes : (n + m) * bytes ≤ 140737488355328) (hbase : base ≤ w.heap.size)
 (h : ∀ v' w', w'.ownsRow base e size v' (n + m) (xs ++ news) → w.grownBy w' v.ownBlock → (v' = .slice none 0 0 ↔ v = .slice none 0 0 ∧ m = 0) → K (a.put o.dst v') w') :
 if Region.wanted o (yielded ops a.tmps) = true then Oper.wp P o a w K Q else E := by
 have hw : Region.wanted o (yielded ops a.tmps) = true := by simp [Region.wanted, hgd]
 rw [if_pos hw]
 exact wp_append_own w s x t ho base e i z size bytes ht hi hz hsize hby hzs hsz v n xs hs hown ad m c news hx hl hnews h1 h63 hbytes hbase h
theorem and15FH : ∀ c : Fin 256, bits .and .u8 (c.val : Int) 15 = (c.val : Int) % 16 := by decide +kernel
theorem and15H (x : Int) (h0 : 0 ≤ x) (h : x < 256) : bits .and .u8 x 15 = x % 16 := by
 have := and15FH ⟨x.toNat, by omega⟩
 simp only [] at this
 rw [show ((x.toNat : Nat) : Int) = x by omega] at this; exact this
theorem hex_any (sp : Option Addr) (n cap : Nat) (b : List Int) (w : World) (hs : Src w w.heap.size sp n cap b) (hbd : n ≤ 1073741824) :
 Calls Tryd.prog 51 #[.slice sp n cap] w fun e w' => e = .returned (.string ⟨(hexB b).toArray⟩) ∧ Below w.heap.size w w' := by
 have HS := zh hs; clear hs
 obtain ⟨i0, hi0, hz0, hz1, hz2⟩ := info_parts Tryd.info5a
 have HI0 := zh hi0; have HZ0 := zh hz0; have HZ1 := zh hz1; have HZ2 := zh hz2
 clear hi0 hz0 hz1 hz2
 go_enter Tryd.func51, Tryd.ntmps51
 go_wp2_with (refine wpList_make_own _ rfl (.const (.int .i64 0)) (.tmp 8) 30 rfl w.heap.size 5 i0 (.int .u8 0) 1 Tryd.underlying30 HI0.out HZ0.out HZ1.out .i64 .i64 _ (2 * n) rfl rfl (by omega) (by rw [HZ2.out]; omega) (by unfold maxLen; omega) (Nat.le_refl _) ?_; intro w1 hown1 hg1; have HO1 := zh hown1; clear hown1)
 have hb1 : Below w.heap.size w w1 := (Below.refl _ _).grown hg1 (Nat.le_refl _) (fun k hk => by cases hk)
 have hs1 := hb1.size
 go_loopw [3, 12] (fun v i wr => ∃ (k N : Nat) (sp' : Option Addr) (cap' : Nat), k ≤ n ∧ i = .int .i64 k ∧ N = 2 * k ∧ v = .slice sp' N cap' ∧ Hid (wr.ownsRow w.heap.size 5 1 (.slice sp' N cap') N (Lib.byteCells (hexB (b.take k)))) ∧ Hid (Below w.heap.size w wr)) (fun _ i _ => n - (intOf i).toNat)
 case atStart => exact ⟨0, 0, _, _, by omega, rfl, rfl, rfl, HO1.out, hb1⟩
 case round =>
  clear HO1 hb1 hs1 hg1
  obtain ⟨k, N, sp', cap', hk, rfl, hN, rfl, hown, hbe⟩ := hrel
  have hbs := hbe.out.size
  have hNb : N ≤ 2147483648 := by omega
  have HNE := zh hN; clear hN
  by_cases hlt : k < n
  ·obtain ⟨bb, off, rfl, hbb, hcap, hc⟩ := HS.out.cells (by omega)
   have ck := (hbe.out.cell (p := ⟨bb, off + k, none⟩) hbb).trans (hc k hlt)
   have hd : decide ((k : Int) < (n : Int)) = true := by simp; omega
   have hx := HS.out.byt.at_ k
   have HE := zh (hexB_succ b k (by rw [HS.out.len]; exact hlt))
   have q1 : (0 : Int) ≤ (k : Int) := by omega
   have q2 : (k : Int) < (n : Int) := by omega
   have hx1 := hexl_index ((b.getD k 0).toNat / 16) (by omega)
   have hx2 := hexl_index ((b.getD k 0).toNat % 16) (by omega)
   rw [show (((b.getD k 0).toNat / 16 : Nat) : Int) = (b.getD k 0) / 16 by omega] at hx1
   rw [show (((b.getD k 0).toNat % 16 : Nat) : Int) = (b.getD k 0) % 16 by omega] at hx2
   have hand := and15H (b.getD k 0) hx.1 hx.2
   generalize b.getD k 0 = x at *
   obtain ⟨c1, hc1⟩ : ∃ c, hexl (x.toNat / 16) = c := ⟨_, rfl⟩
   obtain ⟨c2, hc2⟩ : ∃ c, hexl (x.toNat % 16) = c := ⟨_, rfl⟩
   rw [hc1] at hx1 HE
   rw [hc2] at hx2 HE
   clear hc1 hc2 hc
   have hl : (hexB (b.take k)).length = N := by rw [hexB_length, List.length_take, HS.out.len, HNE.out]; omega
   generalize hexB (b.take k) = T at *
   have HL := zh hl; clear hl
   go_wp2_with fail
   go_region_held3 (fun _ => True) (trivial) ((refine step_append_ownH rfl (.tmp 16) (.tmp 23) 30 (by rfl) w.heap.size 5 i0 (.int .u8 0) 1 1 Tryd.underlying30 HI0.out HZ0.out HZ1.out HZ2.out rfl (by decide) _ _ _ (by rfl) (by exact (hown.out.alloc _).drew) ⟨wr.heap.size, 0, none⟩ 2 2 (Lib.byteCells [c1, c2]) (by rfl) (by rfl) (by exact cells_newH _ _ _) (Lib.byteCells_one _) (by unfold maxLen; omega) (by omega) (by simp; omega) ?_; intro v' w1 hown1 hg1 _; have HO1 := zh hown1; clear hown1))
   all_goals
    go_wp2
    have hbe1 := ((hbe.out.alloc hbs (.cells (Lib.byteCells [c1, c2]).toArray 5)).drew).grown hg1 (by simp; omega) (own_baseC hown.out)
    obtain ⟨sp5, cap5, rfl⟩ := own_shapeC HO1.out
    go_roundw
    case rel =>
     refine ⟨k + 1, N + 2, sp5, cap5, by omega, by go_num, by have := HNE.out; omega, rfl, ?_, hbe1⟩
     have := HO1.out
     show World.ownsRow _ _ _ _ _ _ _
     rw [HE.out, Lib.byteCells_append]; exact this
    case measure => simp [intOf]; omega
  ·obtain rfl : k = n := by omega
   have hd : decide ((k : Int) < (k : Int)) = false := by simp
   have hall : b.take k = b := List.take_of_length_le (by rw [HS.out.len]; exact Nat.le_refl _)
   rw [hall] at hown
   have hlen : (hexB b).length = N := by rw [hexB_length, HS.out.len, HNE.out]
   have ho := hown.out
   rw [← hlen] at ho
   have hcv := run_string_ownH ho
   rw [hlen] at hcv
   have HBE := zh hbe.out
   clear ho hlen hown hall
   obtain ⟨T, hT⟩ : ∃ T, hexB b = T := ⟨_, rfl⟩
   rw [hT] at hcv
   have HT := zh hT; clear hT
   go_wp2
   go_ret
   exact ⟨by rw [HT.out]; rfl, HBE.out⟩
theorem refHex_any (sp : Option Addr) (n cap : Nat) (b : List Int) (w : World) (hs : Src w w.heap.size sp n cap b) (hbd : n ≤ 1073741824) :
 Calls Tryd.prog 54 #[.slice sp n cap] w fun e w' => e = .returned (.string ⟨(hexB b).toArray⟩) ∧ Below w.heap.size w w' := by
 have HS := zh hs; clear hs
 obtain ⟨i0, hi0, hz0, hz1, hz2⟩ := info_parts Tryd.info5a
 have HI0 := zh hi0; have HZ0 := zh hz0; have HZ1 := zh hz1; have HZ2 := zh hz2
 clear hi0 hz0 hz1 hz2
 go_enter Tryd.func54, Tryd.ntmps54
 go_wp2_with fail
 go_loopw [4, 5] (fun v i wr => ∃ (k N : Nat) (sp' : Option Addr) (cap' : Nat), k ≤ n ∧ i = .int .i64 k ∧ N = 2 * k ∧ v = .slice sp' N cap' ∧ Hid (wr.ownsRow w.heap.size 5 1 (.slice sp' N cap') N (Lib.byteCells (hexB (b.take k)))) ∧ Hid (Below w.heap.size w wr)) (fun _ i _ => n - (intOf i).toNat)
 case atStart => exact ⟨0, 0, none, 0, by omega, rfl, rfl, rfl, World.ownsRow_nil _ _ _ _, Below.refl _ _⟩
 case round =>
  obtain ⟨k, N, sp', cap', hk, rfl, hN, rfl, hown, hbe⟩ := hrel
  have hbs := hbe.out.size
  have hNb : N ≤ 2147483648 := by omega
  have HNE := zh hN; clear hN
  by_cases hlt : k < n
  ·obtain ⟨bb, off, rfl, hbb, hcap, hc⟩ := HS.out.cells (by omega)
   have hd : decide ((k : Int) < (n : Int)) = true := by simp; omega
   have hx := HS.out.byt.at_ k
   have HE := zh (hexB_succ b k (by rw [HS.out.len]; exact hlt))
   have q1 : (0 : Int) ≤ (k : Int) := by omega
   have q2 : (k : Int) < (n : Int) := by omega
   have ck := (hbe.out.cell (p := ⟨bb, off + k, none⟩) hbb).trans (hc k hlt)
   have hx1 := hexl_index ((b.getD k 0).toNat / 16) (by omega)
   have hx2 := hexl_index ((b.getD k 0).toNat % 16) (by omega)
   rw [show (((b.getD k 0).toNat / 16 : Nat) : Int) = (b.getD k 0) / 16 by omega] at hx1
   rw [show (((b.getD k 0).toNat % 16 : Nat) : Int) = (b.getD k 0) % 16 by omega] at hx2
   have hand := and15H (b.getD k 0) hx.1 hx.2
   generalize b.getD k 0 = x at *
   obtain ⟨c1, hc1⟩ : ∃ c, hexl (x.toNat / 16) = c := ⟨_, rfl⟩
   obtain ⟨c2, hc2⟩ : ∃ c, hexl (x.toNat % 16) = c := ⟨_, rfl⟩
   rw [hc1] at hx1 HE
   rw [hc2] at hx2 HE
   clear hc1 hc2 hc
   have hl : (hexB (b.take k)).length = N := by rw [hexB_length, List.length_take, HS.out.len, HNE.out]; omega
   generalize hexB (b.take k) = T at *
   have HL := zh hl; clear hl
   have HKEEP : Hid (∀ w', Below w.heap.size wr w' → w'.cell? ⟨bb, off + k, none⟩ = some (.int .u8 x)) := fun w' h => (h.cell (p := ⟨bb, off + k, none⟩) hbb).trans ck
   go_wp2_with fail
   go_region_held3 (fun w' => w'.cell? ⟨bb, off + k, none⟩ = some (.int .u8 x)) (first | exact HKEEP.out _ (Below.refl _ _) | exact HKEEP.out _ (Below.refl _ _).drew | exact HKEEP.out _ ((Below.refl _ _).alloc hbs _) | exact HKEEP.out _ ((Below.refl _ _).alloc hbs _).drew | exact HKEEP.out _ (by assumption)) ((refine step_append_ownH rfl (.tmp 12) (.tmp 27) 30 (by rfl) w.heap.size 5 i0 (.int .u8 0) 1 1 Tryd.underlying30 HI0.out HZ0.out HZ1.out HZ2.out rfl (by decide) _ _ _ (by rfl) (by exact (hown.out.alloc _).drew) ⟨wr.heap.size, 0, none⟩ 2 2 (Lib.byteCells [c1, c2]) (by rfl) (by rfl) (by exact cells_newH _ _ _) (Lib.byteCells_one _) (by unfold maxLen; omega) (by omega) (by simp; omega) ?_; intro v' w1 hown1 hg1 _; have HO1 := zh hown1; clear hown1; have hbA : Below w.heap.size wr w1 := (((Below.refl _ _).alloc hbs _).drew).grown hg1 (by simp; omega) (own_baseC hown.out)))
   all_goals
    go_wp2
    have hbe1 := hbe.out.trans hbA
    obtain ⟨sp5, cap5, rfl⟩ := own_shapeC HO1.out
    go_roundw
    case rel =>
     refine ⟨k + 1, N + 2, sp5, cap5, by omega, by go_num, by have := HNE.out; omega, rfl, ?_, hbe1⟩
     have := HO1.out
     show World.ownsRow _ _ _ _ _ _ _
     rw [HE.out, Lib.byteCells_append]; exact this
    case measure => simp [intOf]; omega
  ·obtain rfl : k = n := by omega
   have hd : decide ((k : Int) < (k : Int)) = false := by simp
   have hall : b.take k = b := List.take_of_length_le (by rw [HS.out.len]; exact Nat.le_refl _)
   rw [hall] at hown
   have hlen : (hexB b).length = N := by rw [hexB_length, HS.out.len, HNE.out]
   have ho := hown.out
   rw [← hlen] at ho
   have hcv := run_string_ownH ho
   rw [hlen] at hcv
   have HBE := zh hbe.out
   clear ho hlen hown hall
   obtain ⟨T, hT⟩ : ∃ T, hexB b = T := ⟨_, rfl⟩
   rw [hT] at hcv
   have HT := zh hT; clear hT
   go_wp2
   go_ret
   exact ⟨by rw [HT.out]; rfl, HBE.out⟩
theorem Format_any (a : List Int) (w : World) (ha : a.length = 32) (hA : Byt a) :
 Calls Tryd.prog 32 #[.agg (a.map (Value.int .u8)).toArray] w fun e w' => e = .returned (.string ⟨([115, 104, 97, 50, 53, 54, 58] ++ hexB a).toArray⟩) ∧ Below w.heap.size w w' := by
 have hr := row_new w 44 .u8 a
 have hb := below_alloc w (.cells (a.map (Value.int .u8)).toArray 44)
 have hsz := alloc_size w (.cells (a.map (Value.int .u8)).toArray 44)
 have HSRC : Hid (Src (w.alloc (.cells (a.map (Value.int .u8)).toArray 44)) (w.heap.size + 1) (some ⟨w.heap.size, 0, none⟩) 32 32 a) := by
  have := bytes_block (cap := 32) (B := w.heap.size + 1) hr hA (by omega) (by omega)
  rw [ha] at this; exact this
 rw [← hsz] at HSRC
 have HB := zh hb; have HSZ := zh hsz
 have HLA := zh ha
 clear hr hb hsz ha hA
 go_enter Tryd.func32, Tryd.ntmps32
 go_wp2_with fail
 refine (hex_any _ 32 32 a _ HSRC.out (by omega)).mono ?_
 rintro e w1 ⟨rfl, hb1⟩
 have HBB := zh (HB.out.trans (hb1.mono (by rw [HSZ.out]; omega)))
 clear hb1 HSRC
 have hadd : 7 + (hexB a).length ≤ 9223372036854775807 := by rw [hexB_length, HLA.out]; omega
 go_wp2
 go_ret
 exact ⟨by congr 2, HBB.out⟩
theorem refFormat_any (a : List Int) (w : World) (ha : a.length = 32) (hA : Byt a) :
 Calls Tryd.prog 35 #[.agg (a.map (Value.int .u8)).toArray] w fun e w' => e = .returned (.string ⟨([115, 104, 97, 50, 53, 54, 58] ++ hexB a).toArray⟩) ∧ Below w.heap.size w w' := by
 have HLA := zh ha; have HA := zh hA; clear ha hA
 have HR := zh (row_new w 44 .u8 a)
 have HB := zh (below_alloc w (.cells (a.map (Value.int .u8)).toArray 44))
 have HSZ := zh (alloc_size w (.cells (a.map (Value.int .u8)).toArray 44))
 go_enter Tryd.func35, Tryd.ntmps35
 go_wp2_with fail
 generalize hw0 : World.alloc w _ = w0
 rw [hw0] at HR HB HSZ
 clear hw0
 have hs0 := HSZ.out
 go_loopg [3, 4] 32 (fun g v i wx => ∃ (j N : Nat) (sp : Option Addr) (cap : Nat), j + g = 32 ∧ Hid (N = j) ∧ i = .int .i64 j ∧ v = .slice sp N cap ∧ Hid (wx.ownsRow w0.heap.size 5 1 (.slice sp N cap) N ((a.take j).map (Value.int .u8))) ∧ Hid (Below w0.heap.size w0 wx))
 case atStart => exact ⟨0, 0, none, 0, rfl, rfl, rfl, rfl, World.ownsRow_nil _ _ _ _, Below.refl _ _⟩
 case round =>
  obtain ⟨j, N, sp4, cap4, hjg, hN, rfl, rfl, hown, hbe⟩ := hrel
  have hbs := hbe.out.size
  have hNb : N ≤ 32 := by have := hN.out; omega
  by_cases hj : j < 32
  ·have hc1 : decide ((j : Int) < 32) = true := by simp; omega
   have ca := (HR.out.below hbe.out (by omega)).get j (by rw [HLA.out]; exact hj)
   have q1 : (0 : Int) ≤ (j : Int) := by omega
   have q2 : (j : Int) < 32 := by omega
   obtain ⟨x, hx⟩ : ∃ x, a.getD j 0 = x := ⟨_, rfl⟩
   rw [hx] at ca
   have HX := zh hx; clear hx
   have HLL : Hid (N = (a.take j).length) := by show _ = _; rw [List.length_take, HLA.out, hN.out]; omega
   go_wp2_with (at_builtin; refine wpList_append_byte rfl (.tmp 9) (.tmp 13) 30 5 rfl Tryd.underlying30 Tryd.info5a w0.heap.size _ (a.take j) N rfl HLL.out (hown.out.alloc _) wr.heap.size x rfl (by simp) (by omega) (by simp; omega) ?_; intro sp5 cap5 w5 hown5 hg5)
   have hbe5 := (hbe.out.alloc hbs (.cells #[.int .u8 x] 5)).grown hg5 (by simp; omega) (own_baseC hown.out)
   go_roundg (32 - (j + 1))
   case measure => omega
   case rel =>
    refine ⟨j + 1, N + 1, sp5, cap5, by omega, by show _ = _; have := hN.out; omega, by go_num, rfl, ?_, hbe5⟩
    have := hown5.out
    show World.ownsRow _ _ _ _ _ _ _
    rw [take_snoc0 _ _ (by rw [HLA.out]; exact hj), HX.out]; exact this
  ·obtain rfl : j = 32 := by omega
   have hN2 := hN.out
   rw [List.take_of_length_le (by rw [HLA.out]; exact Nat.le_refl _)] at hown
   have hc1 : decide ((32 : Int) < 32) = false := by decide
   rw [show ((32 : Nat) : Int) = 32 from rfl]
   subst hN2
   have ho := hown.out
   rw [← HLA.out] at ho
   obtain ⟨sp7, cap7, e7, hsrc, hnil⟩ := src_of_own ho HA.out
   injection e7 with e1 e2 e3
   subst e1 e3
   rw [HLA.out] at hsrc
   have HSRC := zh hsrc
   have HWR : Hid (Below w.heap.size w wr) := HB.out.trans (hbe.out.mono (by omega))
   have hadd : 7 + (hexB a).length ≤ 9223372036854775807 := by rw [hexB_length, HLA.out]; omega
   clear ho hsrc hnil hown hbe hN
   go_wp2_with fail
   refine (refHex_any sp4 32 cap4 a wr HSRC.out (by omega)).mono ?_
   rintro e w3 ⟨rfl, hb3⟩
   have HB3 := zh (HWR.out.trans (hb3.mono (by omega)))
   clear hb3
   go_wp2
   go_ret
   exact ⟨by congr 2, HB3.out⟩
def hexv (c : UInt8) : Nat := if 48 ≤ c.toNat ∧ c.toNat ≤ 57 then c.toNat - 48 else if 97 ≤ c.toNat ∧ c.toNat ≤ 102 then c.toNat - 87 else 16
def hby (l : List UInt8) (i : Nat) : Int := ((16 * hexv (l.getD (2 * i) 0) + hexv (l.getD (2 * i + 1) 0) : Nat) : Int)
def hok1 (l : List UInt8) (i : Nat) : Bool := decide (hexv (l.getD (2 * i) 0) < 16) && decide (hexv (l.getD (2 * i + 1) 0) < 16)
def hok (l : List UInt8) (n : Nat) : Bool := (List.range n).all (hok1 l)
def hbs (l : List UInt8) (n : Nat) : List Int := (List.range n).map (hby l)
def fmtD (d : List Int) : ByteArray := ⟨([115, 104, 97, 50, 53, 54, 58] ++ hexB d).toArray⟩
def lineE (tag : ByteArray) (x : En) : List ByteArray := [tag, x.p, fmtD x.d]
end Go.Proofs.YtecllfbadciaoaaDoor
