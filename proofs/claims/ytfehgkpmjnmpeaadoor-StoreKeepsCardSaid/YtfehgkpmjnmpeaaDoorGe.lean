/-
  The walk of digest.hex: bytes as lower-case hexadecimal digits (condition: the argument reads as a list of at most 2^30 bytes).
-/
import Derived.Test.YtfehgkpmjnmpeaaDoorGa
import Derived.Test.YtfehgkpmjnmpeaaDoorGb
import Derived.Lib.AppendStr
import Derived.Lib.UnsafeStr
import Derived.Lib.BufferWrite
import Derived.Laws.IdiomStrings
import Derived.Deep.RegionHeld3
import Derived.Deep.DrawnRows
import Derived.BigRegion
import Derived.OwnWalk
import Derived.Lib.Bytealg
import Derived.IntWalk
namespace Go.Proofs.YtfehgkpmjnmpeaaDoor
open Go.RowKit

/-- a lower-case hexadecimal digit; the digits of bytes -/
def hexl (n : Nat) : UInt8 := if n < 10 then 48 + n.toUInt8 else 87 + n.toUInt8
def hexB (l : List Int) : List UInt8 := l.flatMap fun x => [hexl (x.toNat / 16), hexl (x.toNat % 16)]
theorem hexB_length (l : List Int) : (hexB l).length = 2 * l.length := by
  induction l with
  | nil => rfl
  | cons a t ih => simp [hexB, List.flatMap_cons] at ih ⊢; omega
theorem hexB_succ (l : List Int) (k : Nat) (h : k < l.length) : hexB (l.take (k + 1)) = hexB (l.take k) ++ [hexl ((l.getD k 0).toNat / 16), hexl ((l.getD k 0).toNat % 16)] := by
  rw [take_snoc0 l k h]; unfold hexB; rw [List.flatMap_append]; simp
theorem cells_of_ownH {w : World} {base e : Nat} {v : Value} {l : List UInt8} (h : w.ownsRow base e 1 v l.length (Lib.byteCells l)) :
    (v = .slice none 0 0 ∧ l = []) ∨ ∃ g cap, v = .slice (some ⟨g, 0, none⟩) l.length cap ∧ base ≤ g ∧ g < w.heap.size ∧ ∀ j (hj : j < l.length), w.cell? ⟨g, j, none⟩ = some (.int .u8 (l[j].toNat : Int)) := by
  obtain ⟨_, ⟨rfl, h0⟩ | ⟨g, cap, cur, rfl, hb, hg, hle, _, hsz, htk⟩⟩ := h
  · exact .inl ⟨rfl, List.eq_nil_of_length_eq_zero h0⟩
  · refine .inr ⟨g, cap, rfl, hb, (Array.getElem?_eq_some_iff.1 hg).1, fun j hj => ?_⟩
    rw [cell_of_row w g j cur e _ hg]
    have h1 : (cur.toList.take (l.length * 1))[j]? = some (.int .u8 (l[j].toNat : Int)) := by rw [htk]; simp [Lib.byteCells, List.getElem?_eq_getElem hj]
    rw [List.getElem?_take, if_pos (by omega)] at h1
    simpa using h1
theorem run_string_ownH {w : World} {base e : Nat} {v : Value} {l : List UInt8} (h : w.ownsRow base e 1 v l.length (Lib.byteCells l)) :
    (convert 35 9 v).run Tryd.prog w = .ok (.string ⟨l.toArray⟩) w := by
  rcases cells_of_ownH h with ⟨rfl, rfl⟩ | ⟨g, cap, rfl, _, _, hc⟩
  · rw [run_convert_bytes_string w 35 9 5 none 0 0 Tryd.underlying35 Tryd.underlying5 Tryd.underlying9]
    kernel_rfl
  · exact run_convert_bytes_back w 35 9 5 _ cap l Tryd.underlying35 Tryd.underlying5 Tryd.underlying9 (fun j hj => by rw [Addr.add_mid, Nat.zero_add]; exact hc j hj)
theorem hexl_index (n : Nat) (h : n < 16) (w : World) : (Instr.index 9 (.string ⟨#[48, 49, 50, 51, 52, 53, 54, 55, 56, 57, 97, 98, 99, 100, 101, 102]⟩) (.int .u8 (n : Int))).run Tryd.prog w = .ok (.int .u8 ((hexl n).toNat : Int)) w := by
  rcases (by omega : n = 0 ∨ n = 1 ∨ n = 2 ∨ n = 3 ∨ n = 4 ∨ n = 5 ∨ n = 6 ∨ n = 7 ∨ n = 8 ∨ n = 9 ∨ n = 10 ∨ n = 11 ∨ n = 12 ∨ n = 13 ∨ n = 14 ∨ n = 15) with rfl | rfl | rfl | rfl | rfl | rfl | rfl | rfl | rfl | rfl | rfl | rfl | rfl | rfl | rfl | rfl <;> kernel_rfl
theorem cells_newH (w : World) (L : List Value) (t : TypeId) : ∀ j u, L[j]? = some u → ((w.alloc (.cells L.toArray t)).drew).cell? ((⟨w.heap.size, 0, none⟩ : Addr).add j) = some u := by
  intro j u hj
  have h : ((w.alloc (.cells L.toArray t)).drew).heap[w.heap.size]? = some (.cells L.toArray t (0, 0)) := heap_alloc_new w _
  rw [Addr.add_mid, Nat.zero_add, cell_of_row _ w.heap.size j _ t (0, 0) h]
  simpa using hj
/-- append(own, src...) as a step of a region that draws its order -/
theorem step_append_ownH {P : Program} {w : World} {ops : Array Oper} {o : Oper} {a : Act} {K : Act → World → Prop} {Q : Exit → Act → World → Prop} {E : Prop} (hgd : o.guard = none) (s x : Operand) (t : TypeId)
    (ho : o.op = .call { callee := .builtin .append, args := #[s, x], argTypes := #[t, t] })
    (base : Nat) (e : TypeId) (i : TypeInfo) (z : Value) (size bytes : Nat) (ht : P.underlying t = some (.slice e)) (hi : P.info? e = some i) (hz : i.zero = some z)
    (hsize : i.size = size) (hby : i.bytes = bytes) (hzs : z.cells.size = size) (hsz : 0 < size)
    (v : Value) (n : Nat) (xs : List Value) (hs : a.eval s = v) (hown : w.ownsRow base e size v n xs)
    (ad : Addr) (m c : Nat) (news : List Value) (hx : a.eval x = .slice (some ad) m c) (hl : news.length = m * size) (hnews : ∀ j u, news[j]? = some u → w.cell? (ad.add j) = some u) (h1 : ∀ u ∈ news, u.oneCell' = true)
    (h63 : n + m ≤ maxLen) (hbytes : (n + m) * bytes ≤ 140737488355328) (hbase : base ≤ w.heap.size)
    (h : ∀ v' w', w'.ownsRow base e size v' (n + m) (xs ++ news) → w.grownBy w' v.ownBlock → (v' = .slice none 0 0 ↔ v = .slice none 0 0 ∧ m = 0) → K (a.put o.dst v') w') :
    if Region.wanted o (yielded ops a.tmps) = true then Oper.wp P o a w K Q else E := by
  have hw : Region.wanted o (yielded ops a.tmps) = true := by simp [Region.wanted, hgd]
  rw [if_pos hw]
  exact wp_append_own w s x t ho base e i z size bytes ht hi hz hsize hby hzs hsz v n xs hs hown ad m c news hx hl hnews h1 h63 hbytes hbase h
theorem and15FH : ∀ c : Fin 256, bits .and .u8 (c.val : Int) 15 = (c.val : Int) % 16 := by decide +kernel
theorem and15H (x : Int) (h0 : 0 ≤ x) (h : x < 256) : bits .and .u8 x 15 = x % 16 := by
  have := and15FH ⟨x.toNat, by omega⟩
  simp only [] at this
  rw [show ((x.toNat : Nat) : Int) = x by omega] at this; exact this

end Go.Proofs.YtfehgkpmjnmpeaaDoor

namespace Go.Proofs.YtfehgkpmjnmpeaaDoor
open Go.RowKit

set_option maxRecDepth 100000 in
set_option maxHeartbeats 1000000 in
theorem refHex_any (sp : Option Addr) (n cap : Nat) (b : List Int) (w : World) (hs : Src w w.heap.size sp n cap b) (hbd : n ≤ 1073741824) :
    Calls Tryd.prog 44 #[.slice sp n cap] w fun e w' => e = .returned (.string ⟨(hexB b).toArray⟩) ∧ Below w.heap.size w w' := by
  have HS := Lib.hid hs; clear hs
  obtain ⟨i0, hi0, hz0, hz1, hz2⟩ := info_parts Tryd.info5a
  have HI0 := Lib.hid hi0; have HZ0 := Lib.hid hz0; have HZ1 := Lib.hid hz1; have HZ2 := Lib.hid hz2
  clear hi0 hz0 hz1 hz2
  go_enter Tryd.func44, Tryd.ntmps44
  go_wp2_with fail
  go_loopw [4, 5] (fun v i wr => ∃ (k N : Nat) (sp' : Option Addr) (cap' : Nat), k ≤ n ∧ i = .int .i64 k ∧ N = 2 * k ∧ v = .slice sp' N cap' ∧ Hid (wr.ownsRow w.heap.size 5 1 (.slice sp' N cap') N (Lib.byteCells (hexB (b.take k)))) ∧ Hid (Below w.heap.size w wr)) (fun _ i _ => n - (intOf i).toNat)
  case atStart => exact ⟨0, 0, none, 0, by omega, rfl, rfl, rfl, World.ownsRow_nil _ _ _ _, Below.refl _ _⟩
  case round =>
    obtain ⟨k, N, sp', cap', hk, rfl, hN, rfl, hown, hbe⟩ := hrel
    have hbs := hbe.out.size
    have hNb : N ≤ 2147483648 := by omega
    have HNE := Lib.hid hN; clear hN
    by_cases hlt : k < n
    · obtain ⟨bb, off, rfl, hbb, hcap, hc⟩ := HS.out.cells (by omega)
      have hd : decide ((k : Int) < (n : Int)) = true := by simp; omega
      have hx := HS.out.byt.at_ k
      have HE := Lib.hid (hexB_succ b k (by rw [HS.out.len]; exact hlt))
      have q1 : (0 : Int) ≤ (k : Int) := by omega
      have q2 : (k : Int) < (n : Int) := by omega
      have ck := (hbe.out.cell (p := ⟨bb, off + k, none⟩) hbb).trans (hc k hlt)
      have hx1 := hexl_index ((b.getD k 0).toNat / 16) (by omega)
      have hx2 := hexl_index ((b.getD k 0).toNat % 16) (by omega)
      rw [show (((b.getD k 0).toNat / 16 : Nat) : Int) = (b.getD k 0) / 16 by omega] at hx1
      rw [show (((b.getD k 0).toNat % 16 : Nat) : Int) = (b.getD k 0) % 16 by omega] at hx2
      have hand := and15H (b.getD k 0) hx.1 hx.2
      generalize b.getD k 0 = x at *
      obtain ⟨c1, hc1⟩ : ∃ c, hexl (x.toNat / 16) = c := ⟨_, rfl⟩
      obtain ⟨c2, hc2⟩ : ∃ c, hexl (x.toNat % 16) = c := ⟨_, rfl⟩
      rw [hc1] at hx1 HE
      rw [hc2] at hx2 HE
      clear hc1 hc2 hc
      have hl : (hexB (b.take k)).length = N := by rw [hexB_length, List.length_take, HS.out.len, HNE.out]; omega
      generalize hexB (b.take k) = T at *
      have HL := Lib.hid hl; clear hl
      have HKEEP : Hid (∀ w', Below w.heap.size wr w' → w'.cell? ⟨bb, off + k, none⟩ = some (.int .u8 x)) := fun w' h => (h.cell (p := ⟨bb, off + k, none⟩) hbb).trans ck
      go_wp2_with fail
      go_region_held3 (fun w' => w'.cell? ⟨bb, off + k, none⟩ = some (.int .u8 x)) (first | exact HKEEP.out _ (Below.refl _ _) | exact HKEEP.out _ (Below.refl _ _).drew | exact HKEEP.out _ ((Below.refl _ _).alloc hbs _) | exact HKEEP.out _ ((Below.refl _ _).alloc hbs _).drew | exact HKEEP.out _ (by assumption)) ((refine step_append_ownH rfl (.tmp 12) (.tmp 27) 35 (by rfl) w.heap.size 5 i0 (.int .u8 0) 1 1 Tryd.underlying35 HI0.out HZ0.out HZ1.out HZ2.out rfl (by decide) _ _ _ (by rfl) (by exact (hown.out.alloc _).drew) ⟨wr.heap.size, 0, none⟩ 2 2 (Lib.byteCells [c1, c2]) (by rfl) (by rfl) (by exact cells_newH _ _ _) (Lib.byteCells_one _) (by unfold maxLen; omega) (by omega) (by simp; omega) ?_; intro v' w1 hown1 hg1 _; have HO1 := Lib.hid hown1; clear hown1; have hbA : Below w.heap.size wr w1 := (((Below.refl _ _).alloc hbs _).drew).grown hg1 (by simp; omega) (own_baseC hown.out)))
      all_goals
        go_wp2
        have hbe1 := hbe.out.trans hbA
        obtain ⟨sp5, cap5, rfl⟩ := own_shapeC HO1.out
        go_roundw
        case rel =>
          refine ⟨k + 1, N + 2, sp5, cap5, by omega, by go_num, by have := HNE.out; omega, rfl, ?_, hbe1⟩
          have := HO1.out
          show World.ownsRow _ _ _ _ _ _ _
          rw [HE.out, Lib.byteCells_append]; exact this
        case measure => simp [intOf]; omega
    · obtain rfl : k = n := by omega
      have hd : decide ((k : Int) < (k : Int)) = false := by simp
      have hall : b.take k = b := List.take_of_length_le (by rw [HS.out.len]; exact Nat.le_refl _)
      rw [hall] at hown
      have hlen : (hexB b).length = N := by rw [hexB_length, HS.out.len, HNE.out]
      have ho := hown.out
      rw [← hlen] at ho
      have hcv := run_string_ownH ho
      rw [hlen] at hcv
      have HBE := Lib.hid hbe.out
      clear ho hlen hown hall
      obtain ⟨T, hT⟩ : ∃ T, hexB b = T := ⟨_, rfl⟩
      rw [hT] at hcv
      have HT := Lib.hid hT; clear hT
      go_wp2
      go_ret
      exact ⟨by rw [HT.out]; rfl, HBE.out⟩
end Go.Proofs.YtfehgkpmjnmpeaaDoor

namespace Go.Proofs.YtfehgkpmjnmpeaaDoor
open Go.RowKit

set_option maxRecDepth 100000 in
set_option maxHeartbeats 1000000 in
theorem refFormat_any (a : List Int) (w : World) (ha : a.length = 32) (hA : Byt a) :
    Calls Tryd.prog 27 #[.agg (a.map (Value.int .u8)).toArray] w fun e w' => e = .returned (.string ⟨([115, 104, 97, 50, 53, 54, 58] ++ hexB a).toArray⟩) ∧ Below w.heap.size w w' := by
  have HLA := Lib.hid ha; have HA := Lib.hid hA; clear ha hA
  have HR := Lib.hid (row_new w 32 .u8 a)
  have HB := Lib.hid (below_alloc w (.cells (a.map (Value.int .u8)).toArray 32))
  have HSZ := Lib.hid (alloc_size w (.cells (a.map (Value.int .u8)).toArray 32))
  go_enter Tryd.func27, Tryd.ntmps27
  go_wp2_with fail
  generalize hw0 : World.alloc w _ = w0
  rw [hw0] at HR HB HSZ
  clear hw0
  have hs0 := HSZ.out
  go_loopg [3, 4] 32 (fun g v i wx => ∃ (j N : Nat) (sp : Option Addr) (cap : Nat), j + g = 32 ∧ Hid (N = j) ∧ i = .int .i64 j ∧ v = .slice sp N cap ∧ Hid (wx.ownsRow w0.heap.size 5 1 (.slice sp N cap) N ((a.take j).map (Value.int .u8))) ∧ Hid (Below w0.heap.size w0 wx))
  case atStart => exact ⟨0, 0, none, 0, rfl, rfl, rfl, rfl, World.ownsRow_nil _ _ _ _, Below.refl _ _⟩
  case round =>
    obtain ⟨j, N, sp4, cap4, hjg, hN, rfl, rfl, hown, hbe⟩ := hrel
    have hbs := hbe.out.size
    have hNb : N ≤ 32 := by have := hN.out; omega
    by_cases hj : j < 32
    · have hc1 : decide ((j : Int) < 32) = true := by simp; omega
      have ca := (HR.out.below hbe.out (by omega)).get j (by rw [HLA.out]; exact hj)
      have q1 : (0 : Int) ≤ (j : Int) := by omega
      have q2 : (j : Int) < 32 := by omega
      obtain ⟨x, hx⟩ : ∃ x, a.getD j 0 = x := ⟨_, rfl⟩
      rw [hx] at ca
      have HX := Lib.hid hx; clear hx
      have HLL : Hid (N = (a.take j).length) := by show _ = _; rw [List.length_take, HLA.out, hN.out]; omega
      go_wp2_with (at_builtin; refine wpList_append_byte rfl (.tmp 9) (.tmp 13) 35 5 rfl Tryd.underlying35 Tryd.info5a w0.heap.size _ (a.take j) N rfl HLL.out (hown.out.alloc _) wr.heap.size x rfl (by simp) (by omega) (by simp; omega) ?_; intro sp5 cap5 w5 hown5 hg5)
      have hbe5 := (hbe.out.alloc hbs (.cells #[.int .u8 x] 5)).grown hg5 (by simp; omega) (own_baseC hown.out)
      go_roundg (32 - (j + 1))
      case measure => omega
      case rel =>
        refine ⟨j + 1, N + 1, sp5, cap5, by omega, by show _ = _; have := hN.out; omega, by go_num, rfl, ?_, hbe5⟩
        have := hown5.out
        show World.ownsRow _ _ _ _ _ _ _
        rw [take_snoc0 _ _ (by rw [HLA.out]; exact hj), HX.out]; exact this
    · obtain rfl : j = 32 := by omega
      have hN2 := hN.out
      rw [List.take_of_length_le (by rw [HLA.out]; exact Nat.le_refl _)] at hown
      have hc1 : decide ((32 : Int) < 32) = false := by decide
      rw [show ((32 : Nat) : Int) = 32 from rfl]
      subst hN2
      have ho := hown.out
      rw [← HLA.out] at ho
      obtain ⟨sp7, cap7, e7, hsrc, hnil⟩ := src_of_own ho HA.out
      injection e7 with e1 e2 e3
      subst e1 e3
      rw [HLA.out] at hsrc
      have HSRC := Lib.hid hsrc
      have HWR : Hid (Below w.heap.size w wr) := HB.out.trans (hbe.out.mono (by omega))
      have hadd : 7 + (hexB a).length ≤ 9223372036854775807 := by rw [hexB_length, HLA.out]; omega
      clear ho hsrc hnil hown hbe hN
      go_wp2_with fail
      refine (refHex_any sp4 32 cap4 a wr HSRC.out (by omega)).mono ?_
      rintro e w3 ⟨rfl, hb3⟩
      have HB3 := Lib.hid (HWR.out.trans (hb3.mono (by omega)))
      clear hb3
      go_wp2
      go_ret
      exact ⟨by congr 2, HB3.out⟩
end Go.Proofs.YtfehgkpmjnmpeaaDoor

namespace Go.Proofs.YtfehgkpmjnmpeaaDoor
open Go.RowKit

/-- the lower-case hexadecimal digits; the value of a digit, 16 if it is none -/
def hexd : List UInt8 := [48, 49, 50, 51, 52, 53, 54, 55, 56, 57, 97, 98, 99, 100, 101, 102]
def hexv (c : UInt8) : Nat := if 48 ≤ c.toNat ∧ c.toNat ≤ 57 then c.toNat - 48 else if 97 ≤ c.toNat ∧ c.toNat ≤ 102 then c.toNat - 87 else 16
theorem hexv_le (c : UInt8) : hexv c ≤ 16 := by unfold hexv; split <;> (try split) <;> omega
theorem index_hexlF : ∀ c : Fin 256, Lib.indexByte hexd (UInt8.ofNat c.val) = if hexv (UInt8.ofNat c.val) = 16 then -1 else (hexv (UInt8.ofNat c.val) : Int) := by decide +kernel
theorem index_hexl (c : UInt8) : Lib.indexByte hexd c = if hexv c = 16 then -1 else (hexv c : Int) := by
  have h := index_hexlF ⟨c.toNat, UInt8.toNat_lt _⟩
  simpa using h
/-- the byte at place i of what a text stands for; whether the digits at place i are digits; the first n -/
def hby (l : List UInt8) (i : Nat) : Int := ((16 * hexv (l.getD (2 * i) 0) + hexv (l.getD (2 * i + 1) 0) : Nat) : Int)
def hok1 (l : List UInt8) (i : Nat) : Bool := decide (hexv (l.getD (2 * i) 0) < 16) && decide (hexv (l.getD (2 * i + 1) 0) < 16)
def hok (l : List UInt8) (n : Nat) : Bool := (List.range n).all (hok1 l)
def hbs (l : List UInt8) (n : Nat) : List Int := (List.range n).map (hby l)
theorem hbs_length (l : List UInt8) (n : Nat) : (hbs l n).length = n := by simp [hbs]
theorem hok_succ (l : List UInt8) (k : Nat) : hok l (k + 1) = (hok l k && hok1 l k) := by unfold hok; rw [List.range_succ, List.all_append]; simp
theorem hbs_succ (l : List UInt8) (k : Nat) : hbs l (k + 1) = hbs l k ++ [hby l k] := by unfold hbs; rw [List.range_succ, List.map_append]; rfl
theorem hok_bad {l : List UInt8} {k n : Nat} (h : hok1 l k = false) (hk : k < n) : hok l n = false := by
  unfold hok
  rw [List.all_eq_false]
  exact ⟨k, by simpa using hk, by rw [h]; simp⟩
/-- the row on the way: k bytes written, the others as they were -/
theorem way_set (l : List UInt8) (L0 : List Int) (n k : Nat) (hl : L0.length = n) (hk : k < n) : (hbs l k ++ L0.drop k).set k (hby l k) = hbs l (k + 1) ++ L0.drop (k + 1) := by
  rw [List.set_append_right _ _ (by rw [hbs_length]; exact Nat.le_refl _), hbs_length, Nat.sub_self, hbs_succ, List.drop_eq_getElem_cons (l := L0) (i := k) (by omega), List.append_assoc]
  rfl
theorem way_length (l : List UInt8) (L0 : List Int) (n k : Nat) (hl : L0.length = n) (hk : k ≤ n) : (hbs l k ++ L0.drop k).length = n := by
  rw [List.length_append, hbs_length, List.length_drop]; omega
theorem or_hexlF : ∀ a b : Fin 16, (bits .or .i64 ((a.val : Int) * 16) (b.val : Int)) = ((16 * a.val + b.val : Nat) : Int) := by decide +kernel
theorem or_hexl (a b : Nat) (ha : a < 16) (hb : b < 16) : bits .or .i64 ((a : Int) * 16) (b : Int) = ((16 * a + b : Nat) : Int) := or_hexlF ⟨a, ha⟩ ⟨b, hb⟩
/-- what is written is read -/
theorem hexv_hexlF : ∀ n : Fin 16, hexv (hexl n.val) = n.val := by decide +kernel
theorem hexv_hexl (n : Nat) (h : n < 16) : hexv (hexl n) = n := hexv_hexlF ⟨n, h⟩
theorem hexB_at (a : List Int) (i : Nat) (h : i < a.length) : (hexB a).getD (2 * i) 0 = hexl ((a.getD i 0).toNat / 16) ∧ (hexB a).getD (2 * i + 1) 0 = hexl ((a.getD i 0).toNat % 16) := by
  induction a generalizing i with
  | nil => simp at h
  | cons x r ih =>
    match i with
    | 0 => exact ⟨rfl, rfl⟩
    | j + 1 =>
      have := ih j (by simpa using h)
      rw [show 2 * (j + 1) = 2 * j + 1 + 1 by omega]
      exact this
theorem hok_hexB (a : List Int) (ha : Byt a) : hok (hexB a) a.length = true := by
  unfold hok
  rw [List.all_eq_true]
  intro i hi
  have hi' : i < a.length := by simpa using hi
  have hx := ha.at_ i
  obtain ⟨h1, h2⟩ := hexB_at a i hi'
  unfold hok1
  rw [h1, h2, hexv_hexl _ (by omega), hexv_hexl _ (by omega), decide_eq_true (by omega), decide_eq_true (by omega)]; rfl
theorem hbs_hexB (a : List Int) (ha : Byt a) : hbs (hexB a) a.length = a := by
  apply List.ext_getElem
  · rw [hbs_length]
  · intro i h1 h2
    have hx := ha.at_ i
    obtain ⟨e1, e2⟩ := hexB_at a i h2
    have e : (hbs (hexB a) a.length)[i] = hby (hexB a) i := by simp [hbs]
    rw [e]; unfold hby
    rw [e1, e2, hexv_hexl _ (by omega), hexv_hexl _ (by omega)]
    have : a.getD i 0 = a[i] := by simp [List.getD_eq_getElem?_getD, List.getElem?_eq_getElem h2]
    rw [this] at hx ⊢; omega
end Go.Proofs.YtfehgkpmjnmpeaaDoor

namespace Go.Proofs.YtfehgkpmjnmpeaaDoor
open Go.RowKit

theorem byteOfH (c : UInt8) : ((c.toNat : Int)).toNat.toUInt8 = c := by simp
theorem getD_data (s : ByteArray) (i : Nat) (h : i < s.size) : s.data.toList.getD i 0 = s[i] := by
  rw [List.getD_eq_getElem?_getD, List.getElem?_eq_getElem (by simpa using h)]; rfl
end Go.Proofs.YtfehgkpmjnmpeaaDoor

namespace Go.Proofs.YtfehgkpmjnmpeaaDoor
open Go.RowKit

/-- whether a text is n bytes' digits; the bytes, zeros if it is not -/
def pok (l : List UInt8) (n : Nat) : Bool := decide (l.length = 2 * n) && hok l n
def pby (l : List UInt8) (n : Nat) : List Int := if pok l n = true then hbs l n else List.replicate n 0
theorem results_row_tmp {P : Program} {fn : Func} {p u : Tmp} {ty : TypeId} (h : fn.results = #[.cell p ty, .tmp u]) (tmps : Array Value) (w : World) (g : Nat) (t : TypeId) (cs : Array Value) (fr : Nat × Nat) (d : TypeDesc)
    (hp : tmps.getD p undef = .pointer (some ⟨g, 0, none⟩)) (hg : w.heap[g]? = some (.cells cs t fr))
    (hu : P.underlying ty = some d) (hd : (match d with | .struct _ | .array _ _ => true | _ => false) = true) (hi : (P.info? ty).map (·.size) = some cs.size) :
    (results fn tmps).run P w = .ok (.tuple #[.agg cs, tmps.getD u undef]) w := by
  rw [results_cell_tmp h, hp]
  simp [asAddr, run_loadVar_row w g t ty cs fr d hg hu hd hi]

/-- a row of zeros, its value behind a name -/
def zrow (n : Nat) : Array Value := ((List.replicate n (0 : Int)).map (Value.int .u8)).toArray
theorem bzD (w : World) : (Instr.build 32 #[]).run Tryd.prog w = .ok (.agg (zrow 32)) w := by kernel_rfl
theorem row_info32 (L : List Int) (h : L.length = 32) : (Tryd.prog.info? 32).map (·.size) = some (L.map (Value.int .u8)).toArray.size := by rw [List.size_toArray, List.length_map, h]; exact Tryd.info25d
theorem row_sizes (A L : List Int) (h : A.length = L.length) : (A.map (Value.int .u8)).toArray.size = (L.map (Value.int .u8)).toArray.size := by simp [h]
end Go.Proofs.YtfehgkpmjnmpeaaDoor

namespace Go.Proofs.YtfehgkpmjnmpeaaDoor
open Go.RowKit

/-- the prefix of a digest's text -/
def pfx : ByteArray := ⟨#[115, 104, 97, 50, 53, 54, 58]⟩
theorem ext_data (s : ByteArray) (i j : Nat) : (s.extract i j).data.toList = (s.data.toList.take j).drop i := by
  rw [ByteArray.data_extract, Array.toList_extract, List.extract_eq_take_drop, List.drop_take]
theorem take_eq (s : ByteArray) : ((s.extract 0 7).toList == pfx.toList) = decide (s.data.toList.take 7 = pfx.data.toList) := by
  rw [Lib.toList_data, Lib.toList_data, ext_data, List.drop_zero, Bool.eq_iff_iff, beq_iff_eq, decide_eq_true_iff]
theorem ret_boolH {a b : Bool} (h : a = b) : Ending.returned (.bool a) = .returned (.bool b) := by rw [h]
end Go.Proofs.YtfehgkpmjnmpeaaDoor

namespace Go.Proofs.YtfehgkpmjnmpeaaDoor
open Go.RowKit

/-- whether a text is a digest's; its bytes, zeros if it is not -/
def ppok (l : List UInt8) : Bool := decide (l.take 7 = pfx.data.toList) && pok (l.drop 7) 32
def ppby (l : List UInt8) : List Int := if ppok l = true then hbs (l.drop 7) 32 else List.replicate 32 0
end Go.Proofs.YtfehgkpmjnmpeaaDoor

namespace Go.Proofs.YtfehgkpmjnmpeaaDoor
open Go.RowKit

theorem ret_intH {k : IntKind} {a b : Int} (h : a = b) : Ending.returned (.int k a) = .returned (.int k b) := by rw [h]
end Go.Proofs.YtfehgkpmjnmpeaaDoor

namespace Go.Proofs.YtfehgkpmjnmpeaaDoor
open Go.RowKit

def UnhRes (w : World) (l : List UInt8) (n : Nat) (e : Ending) (w' : World) : Prop :=
  ∃ sp cap, e = .returned (.tuple #[.slice sp (if pok l n = true then n else 0) cap, .bool (pok l n)]) ∧ Src w' w'.heap.size sp (if pok l n = true then n else 0) cap (if pok l n = true then hbs l n else []) ∧ Below w.heap.size w w' ∧ ∀ a, sp = some a → w.heap.size ≤ a.block
theorem hbs_byt0 {l : List UInt8} {n : Nat} (h : ∀ i, i < n → hexv (l.getD (2 * i) 0) < 16 ∧ hexv (l.getD (2 * i + 1) 0) < 16) : Byt (hbs l n) := fun x hx => by
  unfold hbs at hx
  obtain ⟨i, hi, rfl⟩ := List.mem_map.1 hx
  have := h i (by simpa using hi)
  unfold hby; omega
theorem hok_at0 {l : List UInt8} {n : Nat} (h : hok l n = true) (i : Nat) (hi : i < n) : hexv (l.getD (2 * i) 0) < 16 ∧ hexv (l.getD (2 * i + 1) 0) < 16 := by
  unfold hok at h
  have := (List.all_eq_true.1 h) i (by simpa using hi)
  unfold hok1 at this
  simpa using this
theorem src_nil (w : World) : Src w w.heap.size none 0 0 [] := ⟨rfl, (fun x hx => by cases hx), fun h => absurd h (by omega)⟩
end Go.Proofs.YtfehgkpmjnmpeaaDoor

namespace Go.Proofs.YtfehgkpmjnmpeaaDoor
open Go.RowKit

theorem pby_length (l : List UInt8) (n : Nat) : (pby l n).length = n := by unfold pby; split <;> simp [hbs_length]
theorem ppby_length (l : List UInt8) : (ppby l).length = 32 := by unfold ppby; split <;> simp [hbs_length]
/-- the row on the way: the first k bytes of a list, the others zero -/
def wayZ (L : List Int) (n k : Nat) : List Int := L.take k ++ List.replicate (n - k) 0
theorem wayZ_zero (L : List Int) (n : Nat) : wayZ L n 0 = List.replicate n 0 := by simp [wayZ]
theorem wayZ_length {L : List Int} {n k : Nat} (hk : k ≤ n) (hl : k ≤ L.length) : (wayZ L n k).length = n := by
  unfold wayZ; rw [List.length_append, List.length_take, List.length_replicate]; omega
theorem wayZ_set {L : List Int} {n k : Nat} (hk : k < n) (hl : k < L.length) : (wayZ L n k).set k (L.getD k 0) = wayZ L n (k + 1) := by
  unfold wayZ
  rw [List.set_append_right _ _ (by rw [List.length_take]; omega), List.length_take, show min k L.length = k by omega, Nat.sub_self, show n - k = (n - (k + 1)) + 1 by omega, List.replicate_succ, List.take_succ_eq_append_getElem hl, List.append_assoc, List.getD_eq_getElem?_getD, List.getElem?_eq_getElem hl]
  rfl
theorem wayZ_full {L : List Int} {n : Nat} (hl : L.length = n) : wayZ L n n = L := by
  unfold wayZ; rw [Nat.sub_self, List.take_of_length_le (by omega)]; simp
theorem grown_setJ {a w : World} {g : Nat} (h : a.grownBy w (some g)) (i : Nat) (u : Value) : a.grownBy (w.setCell ⟨g, i, none⟩ u) (some g) :=
  ⟨h.os, h.tape, h.output, by simpa [World.setCell] using h.size, fun k hk hne => (Below.heap_setCell w ⟨g, i, none⟩ u k (by intro e; exact hne (by rw [e]))).trans (h.block k hk hne)⟩
/-- two new digests of zeros -/
def twoW (w : World) : World := (w.alloc (.cells (Array.replicate 32 (Value.int .u8 0)) 32)).alloc (.cells (Array.replicate 32 (Value.int .u8 0)) 32)
theorem twoZ (w : World) : RowIn (twoW w) (w.heap.size + 1) 32 .u8 (List.replicate 32 0) ∧ RowIn (twoW w) w.heap.size 32 .u8 (List.replicate 32 0) ∧ Below w.heap.size w (twoW w) ∧ (twoW w).heap.size = w.heap.size + 1 + 1 := by
  have h0 : RowIn (w.alloc (.cells (Array.replicate 32 (Value.int .u8 0)) 32)) w.heap.size 32 .u8 (List.replicate 32 0) := row_new w 32 .u8 (List.replicate 32 0)
  have b0 := below_alloc w (.cells (Array.replicate 32 (Value.int .u8 0)) 32)
  have z0 := alloc_size w (.cells (Array.replicate 32 (Value.int .u8 0)) 32)
  unfold twoW
  generalize World.alloc w _ = w0 at *
  have h1 : RowIn (w0.alloc (.cells (Array.replicate 32 (Value.int .u8 0)) 32)) w0.heap.size 32 .u8 (List.replicate 32 0) := row_new w0 32 .u8 (List.replicate 32 0)
  have b1 := below_alloc w0 (.cells (Array.replicate 32 (Value.int .u8 0)) 32)
  have z1 := alloc_size w0 (.cells (Array.replicate 32 (Value.int .u8 0)) 32)
  generalize World.alloc w0 _ = w1 at *
  rw [z0] at h1 z1
  exact ⟨h1, h0.below b1 (by omega), b0.trans (b1.mono (by omega)), z1⟩
end Go.Proofs.YtfehgkpmjnmpeaaDoor
