/-
  The walk of digest.hex: bytes as lower-case hexadecimal digits (condition: the argument reads as a list of at most 2^30 bytes).
-/
import Derived.Test.YtbbeeajkclbaaaaDoorZip
import Derived.Test.YtbbeeajkclbaaaaDoorRefCH
import Derived.Lib.AppendStr
import Derived.Lib.UnsafeStr
import Derived.Lib.BufferWrite
import Derived.Laws.IdiomStrings
import Derived.Deep.DrawnRows
import Derived.Lib.Bytealg
set_option maxRecDepth 100000
set_option maxHeartbeats 8000000
namespace Go.Proofs.YtbbeeajkclbaaaaDoor
open Go.RowKit
def hexl (n : Nat) : UInt8 := if n < 10 then 48 + n.toUInt8 else 87 + n.toUInt8
def hexB (l : List Int) : List UInt8 := l.flatMap fun x => [hexl (x.toNat / 16), hexl (x.toNat % 16)]
theorem hexB_length (l : List Int) : (hexB l).length = 2 * l.length := by
 induction l with
 | nil => rfl
 | cons a t ih => simp [hexB, List.flatMap_cons] at ih ⊢; omega
theorem hexB_succ (l : List Int) (k : Nat) (h : k < l.length) : hexB (l.take (k + 1)) = hexB (l.take k) ++ [hexl ((l.getD k 0).toNat / 16), hexl ((l.getD k 0).toNat % 16)] := by
 rw [take_snoc0 l k h]; unfold hexB; rw [List.flatMap_append]; simp
theorem cells_of_ownH {w : World} {base e : Nat} {v : Value} {l : List UInt8} (h : w.ownsRow base e 1 v l.length (Lib.byteCells l)) :
 (v = .slice none 0 0 ∧ l = []) ∨ ∃ g cap, v = .slice (some ⟨g, 0, none⟩) l.length cap ∧ base ≤ g ∧ g < w.heap.size ∧ ∀ j (hj : j < l.length), w.cell? ⟨g, j, none⟩ = some (.int .u8 (l[j].toNat : Int)) := by
 obtain ⟨_, ⟨rfl, h0⟩ | ⟨g, cap, cur, rfl, hb, hg, hle, _, hsz, htk⟩⟩ := h
 ·exact .inl ⟨rfl, List.eq_nil_of_length_eq_zero h0⟩
 ·refine .inr ⟨g, cap, rfl, hb, (Array.getElem?_eq_some_iff.1 hg).1, fun j hj => ?_⟩
  rw [cell_of_row w g j cur e _ hg]
  have h1 : (cur.toList.take (l.length * 1))[j]? = some (.int .u8 (l[j].toNat : Int)) := by rw [htk]; simp [Lib.byteCells, List.getElem?_eq_getElem hj]
  rw [List.getElem?_take, if_pos (by omega)] at h1
  simpa using h1
theorem run_string_ownH {w : World} {base e : Nat} {v : Value} {l : List UInt8} (h : w.ownsRow base e 1 v l.length (Lib.byteCells l)) :
 (convert 34 9 v).run Tryd.prog w = .ok (.string ⟨l.toArray⟩) w := by
 rcases cells_of_ownH h with ⟨rfl, rfl⟩ | ⟨g, cap, rfl, _, _, hc⟩
 ·rw [run_convert_bytes_string w 34 9 5 none 0 0 Tryd.underlying34 Tryd.underlying5 Tryd.underlying9]
  kernel_rfl
 ·exact run_convert_bytes_back w 34 9 5 _ cap l Tryd.underlying34 Tryd.underlying5 Tryd.underlying9 (fun j hj => by rw [Addr.add_mid, Nat.zero_add]; exact hc j hj)
theorem hexl_index (n : Nat) (h : n < 16) (w : World) : (Instr.index 9 (.string ⟨#[48, 49, 50, 51, 52, 53, 54, 55, 56, 57, 97, 98, 99, 100, 101, 102]⟩) (.int .u8 (n : Int))).run Tryd.prog w = .ok (.int .u8 ((hexl n).toNat : Int)) w := by
 rcases (by omega : n = 0 ∨ n = 1 ∨ n = 2 ∨ n = 3 ∨ n = 4 ∨ n = 5 ∨ n = 6 ∨ n = 7 ∨ n = 8 ∨ n = 9 ∨ n = 10 ∨ n = 11 ∨ n = 12 ∨ n = 13 ∨ n = 14 ∨ n = 15) with rfl | rfl | rfl | rfl | rfl | rfl | rfl | rfl | rfl | rfl | rfl | rfl | rfl | rfl | rfl | rfl <;> kernel_rfl
theorem cells_newH (w : World) (L : List Value) (t : TypeId) : ∀ j u, L[j]? = some u → ((w.alloc (.cells L.toArray t)).drew).cell? ((⟨w.heap.size, 0, none⟩ : Addr).add j) = some u := by
 intro j u hj
 have h : ((w.alloc (.cells L.toArray t)).drew).heap[w.heap.size]? = some (.cells L.toArray t (0, 0)) := heap_alloc_new w _
 rw [Addr.add_mid, Nat.zero_add, cell_of_row _ w.heap.size j _ t (0, 0) h]
 simpa using hj
theorem step_append_ownH {P : Program} {w : World} {ops : Array Oper} {o : Oper} {a : Act} {K : Act → World → Prop} {Q : Exit → Act → World → Prop} {E : Prop} (hgd : o.guard = none) (s x : Operand) (t : TypeId)
 (ho : o.op = .call { callee := .builtin .append, args := #[s, x], argTypes := #[t, t] })
 (base : Nat) (e : TypeId) (i : TypeInfo) (z : Value) (size bytes : Nat) (ht : P.underlying t = some (.slice e)) (hi : P.info? e = some i) (hz : i.zero = some z)
 (hsize : i.size = size) (hby : i.bytes = bytes) (hzs : z.cells.size = size) (hsz : 0 < size)
 (v : Value) (n : Nat) (xs : List Value) (hs : a.eval s = v) (hown : w.ownsRow base e size v n xs)
 (ad : Addr) (m c : Nat) (news : List Value) (hx : a.eval x = .slice (some ad) m c) (hl : news.length = m * size) (hnews : ∀ j u, news[j]? = some u → w.cell? (ad.add j) = some u) (h1 : ∀ u ∈ news, u.oneCell' = true)
 (h63 : n + m ≤ maxLen) (hbytes : (n + m) * bytes ≤ 140737488355328) (hbase : base ≤ w.heap.size)
 (h : ∀ v' w', w'.ownsRow base e size v' (n + m) (xs ++ news) → w.grownBy w' v.ownBlock → (v' = .slice none 0 0 ↔ v = .slice none 0 0 ∧ m = 0) → K (a.put o.dst v') w') :
 if Region.wanted o (yielded ops a.tmps) = true then Oper.wp P o a w K Q else E := by
 have hw : Region.wanted o (yielded ops a.tmps) = true := by simp [Region.wanted, hgd]
 rw [if_pos hw]
 exact wp_append_own w s x t ho base e i z size bytes ht hi hz hsize hby hzs hsz v n xs hs hown ad m c news hx hl hnews h1 h63 hbytes hbase h
theorem and15FH : ∀ c : Fin 256, bits .and .u8 (c.val : Int) 15 = (c.val : Int) % 16 := by decide +kernel
theorem and15H (x : Int) (h0 : 0 ≤ x) (h : x < 256) : bits .and .u8 x 15 = x % 16 := by
 have := and15FH ⟨x.toNat, by omega⟩
 simp only [] at this
 rw [show ((x.toNat : Nat) : Int) = x by omega] at this; exact this
theorem hex_any (sp : Option Addr) (n cap : Nat) (b : List Int) (w : World) (hs : Src w w.heap.size sp n cap b) (hbd : n ≤ 1073741824) :
 Calls Tryd.prog 62 #[.slice sp n cap] w fun e w' => e = .returned (.string ⟨(hexB b).toArray⟩) ∧ Below w.heap.size w w' := by
 have HS := zh hs; clear hs
 obtain ⟨i0, hi0, hz0, hz1, hz2⟩ := info_parts Tryd.info5a
 have HI0 := zh hi0; have HZ0 := zh hz0; have HZ1 := zh hz1; have HZ2 := zh hz2
 clear hi0 hz0 hz1 hz2
 go_enter Tryd.func62, Tryd.ntmps62
 go_wp2_with (refine wpList_make_own _ rfl (.const (.int .i64 0)) (.tmp 8) 34 rfl w.heap.size 5 i0 (.int .u8 0) 1 Tryd.underlying34 HI0.out HZ0.out HZ1.out .i64 .i64 _ (2 * n) rfl rfl (by omega) (by rw [HZ2.out]; omega) (by unfold maxLen; omega) (Nat.le_refl _) ?_; intro w1 hown1 hg1; have HO1 := zh hown1; clear hown1)
 have hb1 : Below w.heap.size w w1 := (Below.refl _ _).grown hg1 (Nat.le_refl _) (fun k hk => by cases hk)
 have hs1 := hb1.size
 go_loopw [3, 12] (fun v i wr => ∃ (k N : Nat) (sp' : Option Addr) (cap' : Nat), k ≤ n ∧ i = .int .i64 k ∧ N = 2 * k ∧ v = .slice sp' N cap' ∧ Hid (wr.ownsRow w.heap.size 5 1 (.slice sp' N cap') N (Lib.byteCells (hexB (b.take k)))) ∧ Hid (Below w.heap.size w wr)) (fun _ i _ => n - (intOf i).toNat)
 case atStart => exact ⟨0, 0, _, _, by omega, rfl, rfl, rfl, HO1.out, hb1⟩
 case round =>
  clear HO1 hb1 hs1 hg1
  obtain ⟨k, N, sp', cap', hk, rfl, hN, rfl, hown, hbe⟩ := hrel
  have hbs := hbe.out.size
  have hNb : N ≤ 2147483648 := by omega
  have HNE := zh hN; clear hN
  by_cases hlt : k < n
  ·obtain ⟨bb, off, rfl, hbb, hcap, hc⟩ := HS.out.cells (by omega)
   have ck := (hbe.out.cell (p := ⟨bb, off + k, none⟩) hbb).trans (hc k hlt)
   have hd : decide ((k : Int) < (n : Int)) = true := by simp; omega
   have hx := HS.out.byt.at_ k
   have HE := zh (hexB_succ b k (by rw [HS.out.len]; exact hlt))
   have q1 : (0 : Int) ≤ (k : Int) := by omega
   have q2 : (k : Int) < (n : Int) := by omega
   have hx1 := hexl_index ((b.getD k 0).toNat / 16) (by omega)
   have hx2 := hexl_index ((b.getD k 0).toNat % 16) (by omega)
   rw [show (((b.getD k 0).toNat / 16 : Nat) : Int) = (b.getD k 0) / 16 by omega] at hx1
   rw [show (((b.getD k 0).toNat % 16 : Nat) : Int) = (b.getD k 0) % 16 by omega] at hx2
   have hand := and15H (b.getD k 0) hx.1 hx.2
   generalize b.getD k 0 = x at *
   obtain ⟨c1, hc1⟩ : ∃ c, hexl (x.toNat / 16) = c := ⟨_, rfl⟩
   obtain ⟨c2, hc2⟩ : ∃ c, hexl (x.toNat % 16) = c := ⟨_, rfl⟩
   rw [hc1] at hx1 HE
   rw [hc2] at hx2 HE
   clear hc1 hc2 hc
   have hl : (hexB (b.take k)).length = N := by rw [hexB_length, List.length_take, HS.out.len, HNE.out]; omega
   generalize hexB (b.take k) = T at *
   have HL := zh hl; clear hl
   go_wp2_with fail
   go_region_held3 (fun _ => True) (trivial) ((refine step_append_ownH rfl (.tmp 16) (.tmp 23) 34 (by rfl) w.heap.size 5 i0 (.int .u8 0) 1 1 Tryd.underlying34 HI0.out HZ0.out HZ1.out HZ2.out rfl (by decide) _ _ _ (by rfl) (by exact (hown.out.alloc _).drew) ⟨wr.heap.size, 0, none⟩ 2 2 (Lib.byteCells [c1, c2]) (by rfl) (by rfl) (by exact cells_newH _ _ _) (Lib.byteCells_one _) (by unfold maxLen; omega) (by omega) (by simp; omega) ?_; intro v' w1 hown1 hg1 _; have HO1 := zh hown1; clear hown1))
   all_goals
    go_wp2
    have hbe1 := ((hbe.out.alloc hbs (.cells (Lib.byteCells [c1, c2]).toArray 5)).drew).grown hg1 (by simp; omega) (own_baseC hown.out)
    obtain ⟨sp5, cap5, rfl⟩ := own_shapeC HO1.out
    go_roundw
    case rel =>
     refine ⟨k + 1, N + 2, sp5, cap5, by omega, by go_num, by have := HNE.out; omega, rfl, ?_, hbe1⟩
     have := HO1.out
     show World.ownsRow _ _ _ _ _ _ _
     rw [HE.out, Lib.byteCells_append]; exact this
    case measure => simp [intOf]; omega
  ·obtain rfl : k = n := by omega
   have hd : decide ((k : Int) < (k : Int)) = false := by simp
   have hall : b.take k = b := List.take_of_length_le (by rw [HS.out.len]; exact Nat.le_refl _)
   rw [hall] at hown
   have hlen : (hexB b).length = N := by rw [hexB_length, HS.out.len, HNE.out]
   have ho := hown.out
   rw [← hlen] at ho
   have hcv := run_string_ownH ho
   rw [hlen] at hcv
   have HBE := zh hbe.out
   clear ho hlen hown hall
   obtain ⟨T, hT⟩ : ∃ T, hexB b = T := ⟨_, rfl⟩
   rw [hT] at hcv
   have HT := zh hT; clear hT
   go_wp2
   go_ret
   exact ⟨by rw [HT.out]; rfl, HBE.out⟩
theorem Format_any (a : List Int) (w : World) (ha : a.length = 32) (hA : Byt a) :
 Calls Tryd.prog 41 #[.agg (a.map (Value.int .u8)).toArray] w fun e w' => e = .returned (.string ⟨([115, 104, 97, 50, 53, 54, 58] ++ hexB a).toArray⟩) ∧ Below w.heap.size w w' := by
 have hr := row_new w 50 .u8 a
 have hb := below_alloc w (.cells (a.map (Value.int .u8)).toArray 50)
 have hsz := alloc_size w (.cells (a.map (Value.int .u8)).toArray 50)
 have HSRC : Hid (Src (w.alloc (.cells (a.map (Value.int .u8)).toArray 50)) (w.heap.size + 1) (some ⟨w.heap.size, 0, none⟩) 32 32 a) := by
  have := bytes_block (cap := 32) (B := w.heap.size + 1) hr hA (by omega) (by omega)
  rw [ha] at this; exact this
 rw [← hsz] at HSRC
 have HB := zh hb; have HSZ := zh hsz
 have HLA := zh ha
 clear hr hb hsz ha hA
 go_enter Tryd.func41, Tryd.ntmps41
 go_wp2_with fail
 refine (hex_any _ 32 32 a _ HSRC.out (by omega)).mono ?_
 rintro e w1 ⟨rfl, hb1⟩
 have HBB := zh (HB.out.trans (hb1.mono (by rw [HSZ.out]; omega)))
 clear hb1 HSRC
 have hadd : 7 + (hexB a).length ≤ 9223372036854775807 := by rw [hexB_length, HLA.out]; omega
 go_wp2
 go_ret
 exact ⟨by congr 2, HBB.out⟩
def hexv (c : UInt8) : Nat := if 48 ≤ c.toNat ∧ c.toNat ≤ 57 then c.toNat - 48 else if 97 ≤ c.toNat ∧ c.toNat ≤ 102 then c.toNat - 87 else 16
def hby (l : List UInt8) (i : Nat) : Int := ((16 * hexv (l.getD (2 * i) 0) + hexv (l.getD (2 * i + 1) 0) : Nat) : Int)
def hok1 (l : List UInt8) (i : Nat) : Bool := decide (hexv (l.getD (2 * i) 0) < 16) && decide (hexv (l.getD (2 * i + 1) 0) < 16)
def hok (l : List UInt8) (n : Nat) : Bool := (List.range n).all (hok1 l)
def hbs (l : List UInt8) (n : Nat) : List Int := (List.range n).map (hby l)
def fmtD (d : List Int) : ByteArray := ⟨([115, 104, 97, 50, 53, 54, 58] ++ hexB d).toArray⟩
end Go.Proofs.YtbbeeajkclbaaaaDoor
