/-
  Plain mathematics, without conditions beyond those of each lemma: what a hash that has taken a list of bytes holds, block by block (no program is named here).
-/
import Derived.Test.YtecllfbadciaoaaGreatDoorZip
import Derived.Test.YtecllfbadciaoaaGreatDoorQ9
import Derived.Deep.RegionLaw
import Derived.Outline
set_option maxRecDepth 100000
set_option maxHeartbeats 8000000
namespace Go.Proofs.YtecllfbadciaoaaGreatDoor
open Go
def Byt (l : List Int) : Prop := ∀ x ∈ l, 0 ≤ x ∧ x < 256
theorem Byt.at_ {l : List Int} (h : Byt l) (j : Nat) : 0 ≤ l.getD j 0 ∧ l.getD j 0 < 256 := by
 rw [List.getD_eq_getElem?_getD]
 by_cases hj : j < l.length
 ·rw [List.getElem?_eq_getElem hj]; exact h _ (List.getElem_mem hj)
 ·rw [List.getElem?_eq_none (by omega)]; simp
theorem Byt.take {l : List Int} (h : Byt l) (k : Nat) : Byt (l.take k) := fun x hx => h x (List.mem_of_mem_take hx)
theorem Byt.drop {l : List Int} (h : Byt l) (k : Nat) : Byt (l.drop k) := fun x hx => h x (List.mem_of_mem_drop hx)
theorem Byt.append {a b : List Int} (ha : Byt a) (hb : Byt b) : Byt (a ++ b) := fun x hx => by
 rcases List.mem_append.1 hx with h | h
 ·exact ha x h
 ·exact hb x h
theorem Byt.splice {a b : List Int} (ha : Byt a) (hb : Byt b) (k : Nat) : Byt (splice a k b) := (ha.take k).append (hb.append (ha.drop _))
theorem Byt.set {l : List Int} (h : Byt l) (i : Nat) (v : Int) (h0 : 0 ≤ v) (h1 : v < 256) : Byt (l.set i v) := fun x hx => by
 rcases List.mem_or_eq_of_mem_set hx with h' | h'
 ·exact h x h'
 ·subst h'; exact ⟨h0, h1⟩
theorem drop_mid (l b : List Int) (k : Nat) : (l ++ b).drop (l.length + k) = b.drop k := by
 rw [List.drop_append, (show l.drop (l.length + k) = [] from List.drop_eq_nil_of_le (by omega)), Nat.add_sub_cancel_left, List.nil_append]
theorem blks_append (m : Nat) (s : St) (a b : List Int) (h : 64 * m ≤ a.length) : blks m s (a ++ b) = blks m s a := by
 induction m generalizing s a with
 | zero => rfl
 | succ m ih =>
   show blks m (comp s ((a ++ b).take 64)) ((a ++ b).drop 64) = blks m (comp s (a.take 64)) (a.drop 64)
   rw [List.take_append_of_le_length (by omega), List.drop_append_of_le_length (by omega), ih _ _ (by rw [List.length_drop]; omega)]
structure Has (l : List Int) (st : St) (rest : List Int) (used : Nat) (len : Int) : Prop where
 hst : st = blks (l.length / 64) iv l
 hused : used = l.length % 64
 hlen : len = l.length
 htail : rest.take used = l.drop (64 * (l.length / 64))
 hbyt : Byt rest
structure Mid (l b : List Int) (k : Nat) (st : St) : Prop where
 le : k ≤ b.length
 whole : (l.length + k) % 64 = 0
 hst : st = blks ((l.length + k) / 64) iv (l ++ b)
theorem Has.start (rest : List Int) (h : Byt rest) : Has [] iv rest 0 0 := ⟨rfl, rfl, rfl, rfl, h⟩
theorem splice_take {l : List Int} (k : Nat) (c : List Int) (h : k ≤ l.length) : (splice l k c).take (k + c.length) = l.take k ++ c := by
 unfold splice
 have hk : (l.take k).length = k := by rw [List.length_take]; omega
 rw [List.take_append, hk, Nat.add_sub_cancel_left, List.take_of_length_le (by omega), List.take_append_of_le_length (Nat.le_refl _), List.take_length]
theorem Mid.fin {l b : List Int} {k : Nat} {st : St} (h : Mid l b k st) (hk : b.length < k + 64) {rest : List Int} (_hr : rest.length = 64) (hby : Byt rest) (hbb : Byt b) :
 Has (l ++ b) st (splice rest 0 (b.drop k)) (b.length - k) ((l.length : Int) + b.length) := by
 have hw := h.whole
 have hle := h.le
 have hd : (b.drop k).length = b.length - k := List.length_drop
 have hlen : (l ++ b).length = l.length + b.length := List.length_append
 have e1 : (l.length + b.length) / 64 = (l.length + k) / 64 := by omega
 refine ⟨by rw [hlen, e1]; exact h.hst, by rw [hlen]; omega, by rw [hlen]; simp, ?_, hby.splice (hbb.drop k) 0⟩
 have hs := splice_take (l := rest) 0 (b.drop k) (by omega)
 rw [hd, Nat.zero_add, List.take_zero, List.nil_append] at hs
 rw [hs, hlen, e1]
 have e2 : 64 * ((l.length + k) / 64) = l.length + k := by omega
 rw [e2, drop_mid]
theorem Has.small {l : List Int} {st : St} {rest : List Int} {used : Nat} {len : Int} (h : Has l st rest used len) (b : List Int) (hr : rest.length = 64) (h1 : used + b.length < 64) (hbb : Byt b) :
 Has (l ++ b) st (splice rest used b) (used + b.length) (len + b.length) := by
 have hu := h.hused
 have hlen : (l ++ b).length = l.length + b.length := List.length_append
 have e1 : (l.length + b.length) / 64 = l.length / 64 := by omega
 refine ⟨by rw [hlen, e1, blks_append _ _ _ _ (by omega)]; exact h.hst, by rw [hlen]; omega, by rw [hlen, h.hlen]; simp, ?_, h.hbyt.splice hbb used⟩
 rw [splice_take _ _ (by omega), h.htail, hlen, e1, List.drop_append_of_le_length (by omega)]
end Go.Proofs.YtecllfbadciaoaaGreatDoor
namespace Go.Proofs.YtecllfbadciaoaaGreatDoor
open Go.RowKit
structure Src (w : World) (B : Nat) (sp : Option Addr) (n cap : Nat) (b : List Int) : Prop where
 len : b.length = n
 byt : Byt b
 cells : 0 < n → ∃ bb off, sp = some ⟨bb, off, none⟩ ∧ bb < B ∧ n ≤ cap ∧ ∀ j, j < n → w.cell? ⟨bb, off + j, none⟩ = some (.int .u8 (b.getD j 0))
theorem Src.below {w w' : World} {B B' : Nat} {sp : Option Addr} {n cap : Nat} {b : List Int} (h : Src w B sp n cap b) (hb : Below B' w w') (hB : B ≤ B') : Src w' B sp n cap b :=
 ⟨h.len, h.byt, fun hn => by
  obtain ⟨bb, off, e, hlt, hc, hcell⟩ := h.cells hn
  exact ⟨bb, off, e, hlt, hc, fun j hj => (hb.cell (p := ⟨bb, off + j, none⟩) (by show bb < B'; omega)).trans (hcell j hj)⟩⟩
theorem Src.cut {w : World} {B bb off n cap : Nat} {b : List Int} (h : Src w B (some ⟨bb, off, none⟩) n cap b) (m : Nat) (hm : m ≤ n) :
 Src w B (if cap = m then some ⟨bb, off, none⟩ else some ⟨bb, off + m, none⟩) (n - m) (cap - m) (b.drop m) := by
 refine ⟨by rw [List.length_drop, h.len], h.byt.drop m, fun hn => ?_⟩
 obtain ⟨b', o', e, hlt, hcap, hc⟩ := h.cells (by omega)
 injection e with e; injection e with e1 e2; subst e1 e2
 refine ⟨bb, off + m, by rw [if_neg (by omega)], hlt, by omega, fun j hj => ?_⟩
 have := hc (m + j) (by omega)
 rw [Nat.add_assoc, this]
 simp [List.getD_eq_getElem?_getD]
theorem RowIn.grown {w w' : World} {b g : Nat} {t : TypeId} {k : IntKind} {L : List Int} (h : RowIn w b t k L) (hg : w.grownBy w' (some g)) (hne : b ≠ g) : RowIn w' b t k L := by
 unfold RowIn; rw [hg.block b h.lt (fun e => hne (by injection e))]; exact h
end Go.Proofs.YtecllfbadciaoaaGreatDoor
namespace Go.Proofs.YtecllfbadciaoaaGreatDoor
open Go
def lb (m : Int) (i : Nat) : Int := m / 2 ^ (8 * i) % 256
def lenb (m : Int) : List Int := [lb m 7, lb m 6, lb m 5, lb m 4, lb m 3, lb m 2, lb m 1, lb m 0]
def pad (l : List Int) : List Int := l ++ (128 :: (List.replicate ((119 - l.length % 64) % 64) 0 ++ lenb (8 * (l.length : Int))))
def sha (l : List Int) : St := blks ((pad l).length / 64) iv (pad l)
end Go.Proofs.YtecllfbadciaoaaGreatDoor
namespace Go.Proofs.YtecllfbadciaoaaGreatDoor
open Go.RowKit
structure Part where
 sp : Option Addr
 n : Nat
 cap : Nat
 b : List Int
def Part.val (q : Part) : Value := .slice q.sp q.n q.cap
theorem Src.more {w : World} {B B' : Nat} {sp : Option Addr} {n cap : Nat} {b : List Int} (h : Src w B sp n cap b) (hB : B ≤ B') : Src w B' sp n cap b :=
 ⟨h.len, h.byt, fun hn => by
  obtain ⟨bb, off, e, hlt, hc, hcell⟩ := h.cells hn
  exact ⟨bb, off, e, by omega, hc, hcell⟩⟩
structure PartsIn (w : World) (B : Nat) (pa : Option Addr) (np : Nat) (ps : List Part) : Prop where
 len : ps.length = np
 cells : 0 < np → ∃ pb po, pa = some ⟨pb, po, none⟩ ∧ pb < B ∧ ∀ j (hj : j < ps.length), w.cell? ⟨pb, po + j, none⟩ = some ps[j].val
 srcs : ∀ q ∈ ps, Src w B q.sp q.n q.cap q.b
theorem PartsIn.below {w w' : World} {B B' : Nat} {pa : Option Addr} {np : Nat} {ps : List Part} (h : PartsIn w B pa np ps) (hb : Below B' w w') (hB : B ≤ B') : PartsIn w' B' pa np ps :=
 ⟨h.len, fun hn => by
  obtain ⟨pb, po, e, hlt, hc⟩ := h.cells hn
  exact ⟨pb, po, e, by omega, fun j hj => (hb.cell (p := ⟨pb, po + j, none⟩) (by show pb < B'; omega)).trans (hc j hj)⟩, fun q hq => ((h.srcs q hq).below hb hB).more hB⟩
theorem bytes_block {w : World} {g B cap : Nat} {t : TypeId} {L : List Int} (hg : RowIn w g t .u8 L) (hL : Byt L) (hlt : g < B) (hc : L.length ≤ cap) : Src w B (some ⟨g, 0, none⟩) L.length cap L :=
 ⟨rfl, hL, fun _ => ⟨g, 0, rfl, hlt, hc, fun j hj => by rw [Nat.zero_add]; exact hg.get j hj⟩⟩
theorem below_alloc (w : World) (o : Obj) : Below w.heap.size w (w.alloc o) := (Below.refl _ _).alloc (Nat.le_refl _) _
theorem alloc_size (w : World) (o : Obj) : (w.alloc o).heap.size = w.heap.size + 1 := by simp
theorem row_new (w : World) (t : TypeId) (k : IntKind) (L : List Int) : RowIn (w.alloc (.cells (L.map (Value.int k)).toArray t)) w.heap.size t k L := heap_alloc_new _ _
def Zrow (w : World) (b : Nat) : Prop := w.heap[b]? = some (.cells (Array.replicate 32 (Value.int .u8 0)) 80 (0, 0))
theorem Zrow.new (w : World) : Zrow (w.alloc (.cells (Array.replicate 32 (Value.int .u8 0)) 80)) w.heap.size := heap_alloc_new _ _
theorem Zrow.below {w w' : World} {b B : Nat} (h : Zrow w b) (hb : Below B w w') (hlt : b < B) : Zrow w' b := (hb.block b hlt).trans h
theorem Zrow.lt {w : World} {b : Nat} (h : Zrow w b) : b < w.heap.size := (Array.getElem?_eq_some_iff.1 h).1
structure NewZ (w w0 : World) : Prop where
 z : Zrow w0 w.heap.size
 b : Below w.heap.size w w0
 s : w0.heap.size = w.heap.size + 1
theorem NewZ.new (w : World) : NewZ w (w.alloc (.cells (Array.replicate 32 (Value.int .u8 0)) 80)) := ⟨Zrow.new w, below_alloc _ _, alloc_size _ _⟩
def hf (l : List Int) : Array Value := (((dbytes (sha l).list).take 16).map (Value.int .u8)).toArray
theorem src_of_own {w : World} {base e : Nat} {v : Value} {xs : List Int} (h : w.ownsRow base e 1 v xs.length (xs.map (Value.int .u8))) (hx : Byt xs) : ∃ sp cap, v = .slice sp xs.length cap ∧ Src w w.heap.size sp xs.length cap xs ∧ (sp = none → cap = 0) := by
 obtain ⟨_, h | ⟨g, cap, cur, rfl, _, hg, hle, _, hsz, htk⟩⟩ := h
 ·obtain ⟨rfl, h0⟩ := h
  exact ⟨none, 0, by rw [h0], ⟨rfl, hx, fun hn => by omega⟩, fun _ => rfl⟩
 ·refine ⟨_, cap, rfl, ⟨rfl, hx, fun hn => ⟨g, 0, rfl, (Array.getElem?_eq_some_iff.1 hg).1, hle, fun j hj => ?_⟩⟩, fun hh => by cases hh⟩
  rw [Nat.zero_add, cell_of_row w g j cur e _ hg]
  have h1 : (cur.toList.take (xs.length * 1))[j]? = some (.int .u8 (xs.getD j 0)) := by rw [htk]; exact getD_map _ _ _ 0 hj
  rw [List.getElem?_take, if_pos (by omega)] at h1
  simpa using h1
theorem Tryz.info5a : (Tryz.prog.info? 5).map (fun i => (i.zero, i.size, i.bytes)) = some (some (.int .u8 0), 1, 1) := by kernel_rfl
theorem own_shapeC {w : World} {base e size : Nat} {v : Value} {n : Nat} {xs : List Value} (h : w.ownsRow base e size v n xs) : ∃ sp cap, v = .slice sp n cap := by
 obtain ⟨_, ⟨rfl, rfl⟩ | ⟨g, cap, cur, rfl, _⟩⟩ := h
 ·exact ⟨none, 0, rfl⟩
 ·exact ⟨_, cap, rfl⟩
theorem own_baseC {w : World} {base e size : Nat} {v : Value} {n : Nat} {xs : List Value} (h : w.ownsRow base e size v n xs) : ∀ k, v.ownBlock = some k → base ≤ k := fun k hk => (h.lt k hk).1
theorem wpList_append_byte {P : Program} {w : World} {ops : Array Oper} {rest : List Oper} {o : Oper} {a : Act} {Q : Exit → Act → World → Prop} (hgd : o.guard = none) (s x : Operand) (t e : TypeId)
 (ho : o.op = .call { callee := .builtin .append, args := #[s, x], argTypes := #[t, t] }) (ht : P.underlying t = some (.slice e)) (hi : (P.info? e).map (fun i => (i.zero, i.size, i.bytes)) = some (some (.int .u8 0), 1, 1))
 (base : Nat) (v : Value) (xs : List Int) (n : Nat) (hs : a.eval s = v) (hn : n = xs.length) (hown : w.ownsRow base e 1 v n (xs.map (Value.int .u8)))
 (g : Nat) (y : Int) (hx : a.eval x = .slice (some ⟨g, 0, none⟩) 1 1) (hc : w.cell? ⟨g, 0, none⟩ = some (.int .u8 y))
 (hlen : n ≤ 2199023255552) (hbase : base ≤ w.heap.size)
 (h : ∀ sp cap w', Hid (w'.ownsRow base e 1 (.slice sp (n + 1) cap) (n + 1) ((xs ++ [y]).map (Value.int .u8))) → w.grownBy w' v.ownBlock → wpList P ops Q rest (a.put o.dst (.slice sp (n + 1) cap)) w') : wpList P ops Q (o :: rest) a w := by
 obtain ⟨i0, hi0, hz0, hz1, hz2⟩ := info_parts hi
 refine wpList_append_own w hgd s x t ho base e i0 (.int .u8 0) 1 1 ht hi0 hz0 hz1 hz2 rfl (by decide) v n _ hs hown ⟨g, 0, none⟩ 1 1 [.int .u8 y] hx rfl ?_ (by intro u hu; simp at hu; subst hu; rfl) (by unfold maxLen; omega) (by omega) hbase ?_
 ·intro j u hj
  match j, hj with
  | 0, hj => simp at hj; subst hj; rw [Addr.add_mid]; exact hc
 ·intro v' w' h1 h2 _
  obtain ⟨sp, cap, rfl⟩ := own_shapeC h1
  exact h sp cap w' (by show World.ownsRow _ _ _ _ _ _ _; rw [List.map_append]; exact h1) h2
def hexl (n : Nat) : UInt8 := if n < 10 then 48 + n.toUInt8 else 87 + n.toUInt8
def hexB (l : List Int) : List UInt8 := l.flatMap fun x => [hexl (x.toNat / 16), hexl (x.toNat % 16)]
theorem hexB_length (l : List Int) : (hexB l).length = 2 * l.length := by
 induction l with
 | nil => rfl
 | cons a t ih => simp [hexB, List.flatMap_cons] at ih ⊢; omega
theorem hexB_succ (l : List Int) (k : Nat) (h : k < l.length) : hexB (l.take (k + 1)) = hexB (l.take k) ++ [hexl ((l.getD k 0).toNat / 16), hexl ((l.getD k 0).toNat % 16)] := by
 rw [take_snoc0 l k h]; unfold hexB; rw [List.flatMap_append]; simp
theorem cells_of_ownH {w : World} {base e : Nat} {v : Value} {l : List UInt8} (h : w.ownsRow base e 1 v l.length (Lib.byteCells l)) :
 (v = .slice none 0 0 ∧ l = []) ∨ ∃ g cap, v = .slice (some ⟨g, 0, none⟩) l.length cap ∧ base ≤ g ∧ g < w.heap.size ∧ ∀ j (hj : j < l.length), w.cell? ⟨g, j, none⟩ = some (.int .u8 (l[j].toNat : Int)) := by
 obtain ⟨_, ⟨rfl, h0⟩ | ⟨g, cap, cur, rfl, hb, hg, hle, _, hsz, htk⟩⟩ := h
 ·exact .inl ⟨rfl, List.eq_nil_of_length_eq_zero h0⟩
 ·refine .inr ⟨g, cap, rfl, hb, (Array.getElem?_eq_some_iff.1 hg).1, fun j hj => ?_⟩
  rw [cell_of_row w g j cur e _ hg]
  have h1 : (cur.toList.take (l.length * 1))[j]? = some (.int .u8 (l[j].toNat : Int)) := by rw [htk]; simp [Lib.byteCells, List.getElem?_eq_getElem hj]
  rw [List.getElem?_take, if_pos (by omega)] at h1
  simpa using h1
theorem run_string_ownH {w : World} {base e : Nat} {v : Value} {l : List UInt8} (h : w.ownsRow base e 1 v l.length (Lib.byteCells l)) :
 (convert 22 9 v).run Tryz.prog w = .ok (.string ⟨l.toArray⟩) w := by
 rcases cells_of_ownH h with ⟨rfl, rfl⟩ | ⟨g, cap, rfl, _, _, hc⟩
 ·rw [run_convert_bytes_string w 22 9 5 none 0 0 Tryz.underlying22 Tryz.underlying5 Tryz.underlying9]
  kernel_rfl
 ·exact run_convert_bytes_back w 22 9 5 _ cap l Tryz.underlying22 Tryz.underlying5 Tryz.underlying9 (fun j hj => by rw [Addr.add_mid, Nat.zero_add]; exact hc j hj)
theorem hexl_index (n : Nat) (h : n < 16) (w : World) : (Instr.index 9 (.string ⟨#[48, 49, 50, 51, 52, 53, 54, 55, 56, 57, 97, 98, 99, 100, 101, 102]⟩) (.int .u8 (n : Int))).run Tryz.prog w = .ok (.int .u8 ((hexl n).toNat : Int)) w := by
 rcases (by omega : n = 0 ∨ n = 1 ∨ n = 2 ∨ n = 3 ∨ n = 4 ∨ n = 5 ∨ n = 6 ∨ n = 7 ∨ n = 8 ∨ n = 9 ∨ n = 10 ∨ n = 11 ∨ n = 12 ∨ n = 13 ∨ n = 14 ∨ n = 15) with rfl | rfl | rfl | rfl | rfl | rfl | rfl | rfl | rfl | rfl | rfl | rfl | rfl | rfl | rfl | rfl <;> kernel_rfl
theorem cells_newH (w : World) (L : List Value) (t : TypeId) : ∀ j u, L[j]? = some u → ((w.alloc (.cells L.toArray t)).drew).cell? ((⟨w.heap.size, 0, none⟩ : Addr).add j) = some u := by
 intro j u hj
 have h : ((w.alloc (.cells L.toArray t)).drew).heap[w.heap.size]? = some (.cells L.toArray t (0, 0)) := heap_alloc_new w _
 rw [Addr.add_mid, Nat.zero_add, cell_of_row _ w.heap.size j _ t (0, 0) h]
 simpa using hj
theorem step_append_ownH {P : Program} {w : World} {ops : Array Oper} {o : Oper} {a : Act} {K : Act → World → Prop} {Q : Exit → Act → World → Prop} {E : Prop} (hgd : o.guard = none) (s x : Operand) (t : TypeId)
 (ho : o.op = .call { callee := .builtin .append, args := #[s, x], argTypes := #[t, t] })
 (base : Nat) (e : TypeId) (i : TypeInfo) (z : Value) (size bytes : Nat) (ht : P.underlying t = some (.slice e)) (hi : P.info? e = some i) (hz : i.zero = some z)
 (hsize : i.size = size) (hby : i.bytes = bytes) (hzs : z.cells.size = size) (hsz : 0 < size)
 (v : Value) (n : Nat) (xs : List Value) (hs : a.eval s = v) (hown : w.ownsRow base e size v n xs)
 (ad : Addr) (m c : Nat) (news : List Value) (hx : a.eval x = .slice (some ad) m c) (hl : news.length = m * size) (hnews : ∀ j u, news[j]? = some u → w.cell? (ad.add j) = some u) (h1 : ∀ u ∈ news, u.oneCell' = true)
 (h63 : n + m ≤ maxLen) (hbytes : (n + m) * bytes ≤ 140737488355328) (hbase : base ≤ w.heap.size)
 (h : ∀ v' w', w'.ownsRow base e size v' (n + m) (xs ++ news) → w.grownBy w' v.ownBlock → (v' = .slice none 0 0 ↔ v = .slice none 0 0 ∧ m = 0) → K (a.put o.dst v') w') :
 if Region.wanted o (yielded ops a.tmps) = true then Oper.wp P o a w K Q else E := by
 have hw : Region.wanted o (yielded ops a.tmps) = true := by simp [Region.wanted, hgd]
 rw [if_pos hw]
 exact wp_append_own w s x t ho base e i z size bytes ht hi hz hsize hby hzs hsz v n xs hs hown ad m c news hx hl hnews h1 h63 hbytes hbase h
theorem and15FH : ∀ c : Fin 256, bits .and .u8 (c.val : Int) 15 = (c.val : Int) % 16 := by decide +kernel
theorem and15H (x : Int) (h0 : 0 ≤ x) (h : x < 256) : bits .and .u8 x 15 = x % 16 := by
 have := and15FH ⟨x.toNat, by omega⟩
 simp only [] at this
 rw [show ((x.toNat : Nat) : Int) = x by omega] at this; exact this
theorem hex_any (sp : Option Addr) (n cap : Nat) (b : List Int) (w : World) (hs : Src w w.heap.size sp n cap b) (hbd : n ≤ 1073741824) :
 Calls Tryz.prog 113 #[.slice sp n cap] w fun e w' => e = .returned (.string ⟨(hexB b).toArray⟩) ∧ Below w.heap.size w w' := by
 have HS := zh hs; clear hs
 obtain ⟨i0, hi0, hz0, hz1, hz2⟩ := info_parts Tryz.info5a
 have HI0 := zh hi0; have HZ0 := zh hz0; have HZ1 := zh hz1; have HZ2 := zh hz2
 clear hi0 hz0 hz1 hz2
 go_enter Tryz.func113, Tryz.ntmps113
 go_wp2_with (refine wpList_make_own _ rfl (.const (.int .i64 0)) (.tmp 8) 22 rfl w.heap.size 5 i0 (.int .u8 0) 1 Tryz.underlying22 HI0.out HZ0.out HZ1.out .i64 .i64 _ (2 * n) rfl rfl (by omega) (by rw [HZ2.out]; omega) (by unfold maxLen; omega) (Nat.le_refl _) ?_; intro w1 hown1 hg1; have HO1 := zh hown1; clear hown1)
 have hb1 : Below w.heap.size w w1 := (Below.refl _ _).grown hg1 (Nat.le_refl _) (fun k hk => by cases hk)
 have hs1 := hb1.size
 go_loopw [3, 12] (fun v i wr => ∃ (k N : Nat) (sp' : Option Addr) (cap' : Nat), k ≤ n ∧ i = .int .i64 k ∧ N = 2 * k ∧ v = .slice sp' N cap' ∧ Hid (wr.ownsRow w.heap.size 5 1 (.slice sp' N cap') N (Lib.byteCells (hexB (b.take k)))) ∧ Hid (Below w.heap.size w wr)) (fun _ i _ => n - (intOf i).toNat)
 case atStart => exact ⟨0, 0, _, _, by omega, rfl, rfl, rfl, HO1.out, hb1⟩
 case round =>
  clear HO1 hb1 hs1 hg1
  obtain ⟨k, N, sp', cap', hk, rfl, hN, rfl, hown, hbe⟩ := hrel
  have hbs := hbe.out.size
  have hNb : N ≤ 2147483648 := by omega
  have HNE := zh hN; clear hN
  by_cases hlt : k < n
  ·obtain ⟨bb, off, rfl, hbb, hcap, hc⟩ := HS.out.cells (by omega)
   have ck := (hbe.out.cell (p := ⟨bb, off + k, none⟩) hbb).trans (hc k hlt)
   have hd : decide ((k : Int) < (n : Int)) = true := by simp; omega
   have hx := HS.out.byt.at_ k
   have HE := zh (hexB_succ b k (by rw [HS.out.len]; exact hlt))
   have q1 : (0 : Int) ≤ (k : Int) := by omega
   have q2 : (k : Int) < (n : Int) := by omega
   have hx1 := hexl_index ((b.getD k 0).toNat / 16) (by omega)
   have hx2 := hexl_index ((b.getD k 0).toNat % 16) (by omega)
   rw [show (((b.getD k 0).toNat / 16 : Nat) : Int) = (b.getD k 0) / 16 by omega] at hx1
   rw [show (((b.getD k 0).toNat % 16 : Nat) : Int) = (b.getD k 0) % 16 by omega] at hx2
   have hand := and15H (b.getD k 0) hx.1 hx.2
   generalize b.getD k 0 = x at *
   obtain ⟨c1, hc1⟩ : ∃ c, hexl (x.toNat / 16) = c := ⟨_, rfl⟩
   obtain ⟨c2, hc2⟩ : ∃ c, hexl (x.toNat % 16) = c := ⟨_, rfl⟩
   rw [hc1] at hx1 HE
   rw [hc2] at hx2 HE
   clear hc1 hc2 hc
   have hl : (hexB (b.take k)).length = N := by rw [hexB_length, List.length_take, HS.out.len, HNE.out]; omega
   generalize hexB (b.take k) = T at *
   have HL := zh hl; clear hl
   go_wp2_with fail
   go_region_held3 (fun _ => True) (trivial) ((refine step_append_ownH rfl (.tmp 16) (.tmp 23) 22 (by rfl) w.heap.size 5 i0 (.int .u8 0) 1 1 Tryz.underlying22 HI0.out HZ0.out HZ1.out HZ2.out rfl (by decide) _ _ _ (by rfl) (by exact (hown.out.alloc _).drew) ⟨wr.heap.size, 0, none⟩ 2 2 (Lib.byteCells [c1, c2]) (by rfl) (by rfl) (by exact cells_newH _ _ _) (Lib.byteCells_one _) (by unfold maxLen; omega) (by omega) (by simp; omega) ?_; intro v' w1 hown1 hg1 _; have HO1 := zh hown1; clear hown1))
   all_goals
    go_wp2
    have hbe1 := ((hbe.out.alloc hbs (.cells (Lib.byteCells [c1, c2]).toArray 5)).drew).grown hg1 (by simp; omega) (own_baseC hown.out)
    obtain ⟨sp5, cap5, rfl⟩ := own_shapeC HO1.out
    go_roundw
    case rel =>
     refine ⟨k + 1, N + 2, sp5, cap5, by omega, by go_num, by have := HNE.out; omega, rfl, ?_, hbe1⟩
     have := HO1.out
     show World.ownsRow _ _ _ _ _ _ _
     rw [HE.out, Lib.byteCells_append]; exact this
    case measure => simp [intOf]; omega
  ·obtain rfl : k = n := by omega
   have hd : decide ((k : Int) < (k : Int)) = false := by simp
   have hall : b.take k = b := List.take_of_length_le (by rw [HS.out.len]; exact Nat.le_refl _)
   rw [hall] at hown
   have hlen : (hexB b).length = N := by rw [hexB_length, HS.out.len, HNE.out]
   have ho := hown.out
   rw [← hlen] at ho
   have hcv := run_string_ownH ho
   rw [hlen] at hcv
   have HBE := zh hbe.out
   clear ho hlen hown hall
   obtain ⟨T, hT⟩ : ∃ T, hexB b = T := ⟨_, rfl⟩
   rw [hT] at hcv
   have HT := zh hT; clear hT
   go_wp2
   go_ret
   exact ⟨by rw [HT.out]; rfl, HBE.out⟩
theorem refHex_any (sp : Option Addr) (n cap : Nat) (b : List Int) (w : World) (hs : Src w w.heap.size sp n cap b) (hbd : n ≤ 1073741824) :
 Calls Tryz.prog 92 #[.slice sp n cap] w fun e w' => e = .returned (.string ⟨(hexB b).toArray⟩) ∧ Below w.heap.size w w' := by
 have HS := zh hs; clear hs
 obtain ⟨i0, hi0, hz0, hz1, hz2⟩ := info_parts Tryz.info5a
 have HI0 := zh hi0; have HZ0 := zh hz0; have HZ1 := zh hz1; have HZ2 := zh hz2
 clear hi0 hz0 hz1 hz2
 go_enter Tryz.func92, Tryz.ntmps92
 go_wp2_with fail
 go_loopw [4, 5] (fun v i wr => ∃ (k N : Nat) (sp' : Option Addr) (cap' : Nat), k ≤ n ∧ i = .int .i64 k ∧ N = 2 * k ∧ v = .slice sp' N cap' ∧ Hid (wr.ownsRow w.heap.size 5 1 (.slice sp' N cap') N (Lib.byteCells (hexB (b.take k)))) ∧ Hid (Below w.heap.size w wr)) (fun _ i _ => n - (intOf i).toNat)
 case atStart => exact ⟨0, 0, none, 0, by omega, rfl, rfl, rfl, World.ownsRow_nil _ _ _ _, Below.refl _ _⟩
 case round =>
  obtain ⟨k, N, sp', cap', hk, rfl, hN, rfl, hown, hbe⟩ := hrel
  have hbs := hbe.out.size
  have hNb : N ≤ 2147483648 := by omega
  have HNE := zh hN; clear hN
  by_cases hlt : k < n
  ·obtain ⟨bb, off, rfl, hbb, hcap, hc⟩ := HS.out.cells (by omega)
   have hd : decide ((k : Int) < (n : Int)) = true := by simp; omega
   have hx := HS.out.byt.at_ k
   have HE := zh (hexB_succ b k (by rw [HS.out.len]; exact hlt))
   have q1 : (0 : Int) ≤ (k : Int) := by omega
   have q2 : (k : Int) < (n : Int) := by omega
   have ck := (hbe.out.cell (p := ⟨bb, off + k, none⟩) hbb).trans (hc k hlt)
   have hx1 := hexl_index ((b.getD k 0).toNat / 16) (by omega)
   have hx2 := hexl_index ((b.getD k 0).toNat % 16) (by omega)
   rw [show (((b.getD k 0).toNat / 16 : Nat) : Int) = (b.getD k 0) / 16 by omega] at hx1
   rw [show (((b.getD k 0).toNat % 16 : Nat) : Int) = (b.getD k 0) % 16 by omega] at hx2
   have hand := and15H (b.getD k 0) hx.1 hx.2
   generalize b.getD k 0 = x at *
   obtain ⟨c1, hc1⟩ : ∃ c, hexl (x.toNat / 16) = c := ⟨_, rfl⟩
   obtain ⟨c2, hc2⟩ : ∃ c, hexl (x.toNat % 16) = c := ⟨_, rfl⟩
   rw [hc1] at hx1 HE
   rw [hc2] at hx2 HE
   clear hc1 hc2 hc
   have hl : (hexB (b.take k)).length = N := by rw [hexB_length, List.length_take, HS.out.len, HNE.out]; omega
   generalize hexB (b.take k) = T at *
   have HL := zh hl; clear hl
   have HKEEP : Hid (∀ w', Below w.heap.size wr w' → w'.cell? ⟨bb, off + k, none⟩ = some (.int .u8 x)) := fun w' h => (h.cell (p := ⟨bb, off + k, none⟩) hbb).trans ck
   go_wp2_with fail
   go_region_held3 (fun w' => w'.cell? ⟨bb, off + k, none⟩ = some (.int .u8 x)) (first | exact HKEEP.out _ (Below.refl _ _) | exact HKEEP.out _ (Below.refl _ _).drew | exact HKEEP.out _ ((Below.refl _ _).alloc hbs _) | exact HKEEP.out _ ((Below.refl _ _).alloc hbs _).drew | exact HKEEP.out _ (by assumption)) ((refine step_append_ownH rfl (.tmp 12) (.tmp 27) 22 (by rfl) w.heap.size 5 i0 (.int .u8 0) 1 1 Tryz.underlying22 HI0.out HZ0.out HZ1.out HZ2.out rfl (by decide) _ _ _ (by rfl) (by exact (hown.out.alloc _).drew) ⟨wr.heap.size, 0, none⟩ 2 2 (Lib.byteCells [c1, c2]) (by rfl) (by rfl) (by exact cells_newH _ _ _) (Lib.byteCells_one _) (by unfold maxLen; omega) (by omega) (by simp; omega) ?_; intro v' w1 hown1 hg1 _; have HO1 := zh hown1; clear hown1; have hbA : Below w.heap.size wr w1 := (((Below.refl _ _).alloc hbs _).drew).grown hg1 (by simp; omega) (own_baseC hown.out)))
   all_goals
    go_wp2
    have hbe1 := hbe.out.trans hbA
    obtain ⟨sp5, cap5, rfl⟩ := own_shapeC HO1.out
    go_roundw
    case rel =>
     refine ⟨k + 1, N + 2, sp5, cap5, by omega, by go_num, by have := HNE.out; omega, rfl, ?_, hbe1⟩
     have := HO1.out
     show World.ownsRow _ _ _ _ _ _ _
     rw [HE.out, Lib.byteCells_append]; exact this
    case measure => simp [intOf]; omega
  ·obtain rfl : k = n := by omega
   have hd : decide ((k : Int) < (k : Int)) = false := by simp
   have hall : b.take k = b := List.take_of_length_le (by rw [HS.out.len]; exact Nat.le_refl _)
   rw [hall] at hown
   have hlen : (hexB b).length = N := by rw [hexB_length, HS.out.len, HNE.out]
   have ho := hown.out
   rw [← hlen] at ho
   have hcv := run_string_ownH ho
   rw [hlen] at hcv
   have HBE := zh hbe.out
   clear ho hlen hown hall
   obtain ⟨T, hT⟩ : ∃ T, hexB b = T := ⟨_, rfl⟩
   rw [hT] at hcv
   have HT := zh hT; clear hT
   go_wp2
   go_ret
   exact ⟨by rw [HT.out]; rfl, HBE.out⟩
theorem Format_any (a : List Int) (w : World) (ha : a.length = 32) (hA : Byt a) :
 Calls Tryz.prog 76 #[.agg (a.map (Value.int .u8)).toArray] w fun e w' => e = .returned (.string ⟨([115, 104, 97, 50, 53, 54, 58] ++ hexB a).toArray⟩) ∧ Below w.heap.size w w' := by
 have hr := row_new w 80 .u8 a
 have hb := below_alloc w (.cells (a.map (Value.int .u8)).toArray 80)
 have hsz := alloc_size w (.cells (a.map (Value.int .u8)).toArray 80)
 have HSRC : Hid (Src (w.alloc (.cells (a.map (Value.int .u8)).toArray 80)) (w.heap.size + 1) (some ⟨w.heap.size, 0, none⟩) 32 32 a) := by
  have := bytes_block (cap := 32) (B := w.heap.size + 1) hr hA (by omega) (by omega)
  rw [ha] at this; exact this
 rw [← hsz] at HSRC
 have HB := zh hb; have HSZ := zh hsz
 have HLA := zh ha
 clear hr hb hsz ha hA
 go_enter Tryz.func76, Tryz.ntmps76
 go_wp2_with fail
 refine (hex_any _ 32 32 a _ HSRC.out (by omega)).mono ?_
 rintro e w1 ⟨rfl, hb1⟩
 have HBB := zh (HB.out.trans (hb1.mono (by rw [HSZ.out]; omega)))
 clear hb1 HSRC
 have hadd : 7 + (hexB a).length ≤ 9223372036854775807 := by rw [hexB_length, HLA.out]; omega
 go_wp2
 go_ret
 exact ⟨by congr 2, HBB.out⟩
end Go.Proofs.YtecllfbadciaoaaGreatDoor
