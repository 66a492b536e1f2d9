/-
  The walk of digest.hex: bytes as lower-case hexadecimal digits (condition: the argument reads as a list of at most 2^30 bytes).
-/
import Derived.Test.YtdjknefbaclleaaGreatDoorGa
import Derived.Test.YtdjknefbaclleaaGreatDoorGb
import Derived.Lib.AppendStr
import Derived.Lib.UnsafeStr
import Derived.Lib.BufferWrite
import Derived.Laws.IdiomStrings
import Derived.Deep.RegionHeld3
import Derived.Deep.DrawnRows
import Derived.BigRegion
import Derived.OwnWalk
import Derived.Lib.Bytealg
import Derived.IntWalk
namespace Go.Proofs.YtdjknefbaclleaaGreatDoor
open Go.RowKit

/-- a lower-case hexadecimal digit; the digits of bytes -/
def hexl (n : Nat) : UInt8 := if n < 10 then 48 + n.toUInt8 else 87 + n.toUInt8
def hexB (l : List Int) : List UInt8 := l.flatMap fun x => [hexl (x.toNat / 16), hexl (x.toNat % 16)]
theorem hexB_length (l : List Int) : (hexB l).length = 2 * l.length := by
  induction l with
  | nil => rfl
  | cons a t ih => simp [hexB, List.flatMap_cons] at ih ⊢; omega
theorem hexB_succ (l : List Int) (k : Nat) (h : k < l.length) : hexB (l.take (k + 1)) = hexB (l.take k) ++ [hexl ((l.getD k 0).toNat / 16), hexl ((l.getD k 0).toNat % 16)] := by
  rw [take_snoc0 l k h]; unfold hexB; rw [List.flatMap_append]; simp
theorem cells_of_ownH {w : World} {base e : Nat} {v : Value} {l : List UInt8} (h : w.ownsRow base e 1 v l.length (Lib.byteCells l)) :
    (v = .slice none 0 0 ∧ l = []) ∨ ∃ g cap, v = .slice (some ⟨g, 0, none⟩) l.length cap ∧ base ≤ g ∧ g < w.heap.size ∧ ∀ j (hj : j < l.length), w.cell? ⟨g, j, none⟩ = some (.int .u8 (l[j].toNat : Int)) := by
  obtain ⟨_, ⟨rfl, h0⟩ | ⟨g, cap, cur, rfl, hb, hg, hle, _, hsz, htk⟩⟩ := h
  · exact .inl ⟨rfl, List.eq_nil_of_length_eq_zero h0⟩
  · refine .inr ⟨g, cap, rfl, hb, (Array.getElem?_eq_some_iff.1 hg).1, fun j hj => ?_⟩
    rw [cell_of_row w g j cur e _ hg]
    have h1 : (cur.toList.take (l.length * 1))[j]? = some (.int .u8 (l[j].toNat : Int)) := by rw [htk]; simp [Lib.byteCells, List.getElem?_eq_getElem hj]
    rw [List.getElem?_take, if_pos (by omega)] at h1
    simpa using h1
theorem run_string_ownH {w : World} {base e : Nat} {v : Value} {l : List UInt8} (h : w.ownsRow base e 1 v l.length (Lib.byteCells l)) :
    (convert 42 9 v).run Tryz.prog w = .ok (.string ⟨l.toArray⟩) w := by
  rcases cells_of_ownH h with ⟨rfl, rfl⟩ | ⟨g, cap, rfl, _, _, hc⟩
  · rw [run_convert_bytes_string w 42 9 5 none 0 0 Tryz.underlying42 Tryz.underlying5 Tryz.underlying9]
    kernel_rfl
  · exact run_convert_bytes_back w 42 9 5 _ cap l Tryz.underlying42 Tryz.underlying5 Tryz.underlying9 (fun j hj => by rw [Addr.add_mid, Nat.zero_add]; exact hc j hj)
theorem hexl_index (n : Nat) (h : n < 16) (w : World) : (Instr.index 9 (.string ⟨#[48, 49, 50, 51, 52, 53, 54, 55, 56, 57, 97, 98, 99, 100, 101, 102]⟩) (.int .u8 (n : Int))).run Tryz.prog w = .ok (.int .u8 ((hexl n).toNat : Int)) w := by
  rcases (by omega : n = 0 ∨ n = 1 ∨ n = 2 ∨ n = 3 ∨ n = 4 ∨ n = 5 ∨ n = 6 ∨ n = 7 ∨ n = 8 ∨ n = 9 ∨ n = 10 ∨ n = 11 ∨ n = 12 ∨ n = 13 ∨ n = 14 ∨ n = 15) with rfl | rfl | rfl | rfl | rfl | rfl | rfl | rfl | rfl | rfl | rfl | rfl | rfl | rfl | rfl | rfl <;> kernel_rfl
theorem cells_newH (w : World) (L : List Value) (t : TypeId) : ∀ j u, L[j]? = some u → ((w.alloc (.cells L.toArray t)).drew).cell? ((⟨w.heap.size, 0, none⟩ : Addr).add j) = some u := by
  intro j u hj
  have h : ((w.alloc (.cells L.toArray t)).drew).heap[w.heap.size]? = some (.cells L.toArray t (0, 0)) := heap_alloc_new w _
  rw [Addr.add_mid, Nat.zero_add, cell_of_row _ w.heap.size j _ t (0, 0) h]
  simpa using hj
/-- append(own, src...) as a step of a region that draws its order -/
theorem step_append_ownH {P : Program} {w : World} {ops : Array Oper} {o : Oper} {a : Act} {K : Act → World → Prop} {Q : Exit → Act → World → Prop} {E : Prop} (hgd : o.guard = none) (s x : Operand) (t : TypeId)
    (ho : o.op = .call { callee := .builtin .append, args := #[s, x], argTypes := #[t, t] })
    (base : Nat) (e : TypeId) (i : TypeInfo) (z : Value) (size bytes : Nat) (ht : P.underlying t = some (.slice e)) (hi : P.info? e = some i) (hz : i.zero = some z)
    (hsize : i.size = size) (hby : i.bytes = bytes) (hzs : z.cells.size = size) (hsz : 0 < size)
    (v : Value) (n : Nat) (xs : List Value) (hs : a.eval s = v) (hown : w.ownsRow base e size v n xs)
    (ad : Addr) (m c : Nat) (news : List Value) (hx : a.eval x = .slice (some ad) m c) (hl : news.length = m * size) (hnews : ∀ j u, news[j]? = some u → w.cell? (ad.add j) = some u) (h1 : ∀ u ∈ news, u.oneCell' = true)
    (h63 : n + m ≤ maxLen) (hbytes : (n + m) * bytes ≤ 140737488355328) (hbase : base ≤ w.heap.size)
    (h : ∀ v' w', w'.ownsRow base e size v' (n + m) (xs ++ news) → w.grownBy w' v.ownBlock → (v' = .slice none 0 0 ↔ v = .slice none 0 0 ∧ m = 0) → K (a.put o.dst v') w') :
    if Region.wanted o (yielded ops a.tmps) = true then Oper.wp P o a w K Q else E := by
  have hw : Region.wanted o (yielded ops a.tmps) = true := by simp [Region.wanted, hgd]
  rw [if_pos hw]
  exact wp_append_own w s x t ho base e i z size bytes ht hi hz hsize hby hzs hsz v n xs hs hown ad m c news hx hl hnews h1 h63 hbytes hbase h
theorem and15FH : ∀ c : Fin 256, bits .and .u8 (c.val : Int) 15 = (c.val : Int) % 16 := by decide +kernel
theorem and15H (x : Int) (h0 : 0 ≤ x) (h : x < 256) : bits .and .u8 x 15 = x % 16 := by
  have := and15FH ⟨x.toNat, by omega⟩
  simp only [] at this
  rw [show ((x.toNat : Nat) : Int) = x by omega] at this; exact this

end Go.Proofs.YtdjknefbaclleaaGreatDoor

namespace Go.Proofs.YtdjknefbaclleaaGreatDoor
open Go.RowKit

set_option maxRecDepth 100000 in
set_option maxHeartbeats 1000000 in
theorem refHex_any (sp : Option Addr) (n cap : Nat) (b : List Int) (w : World) (hs : Src w w.heap.size sp n cap b) (hbd : n ≤ 1073741824) :
    Calls Tryz.prog 29 #[.slice sp n cap] w fun e w' => e = .returned (.string ⟨(hexB b).toArray⟩) ∧ Below w.heap.size w w' := by
  have HS := Lib.hid hs; clear hs
  obtain ⟨i0, hi0, hz0, hz1, hz2⟩ := info_parts Tryz.info5a
  have HI0 := Lib.hid hi0; have HZ0 := Lib.hid hz0; have HZ1 := Lib.hid hz1; have HZ2 := Lib.hid hz2
  clear hi0 hz0 hz1 hz2
  go_enter Tryz.func29, Tryz.ntmps29
  go_wp2_with fail
  go_loopw [4, 5] (fun v i wr => ∃ (k N : Nat) (sp' : Option Addr) (cap' : Nat), k ≤ n ∧ i = .int .i64 k ∧ N = 2 * k ∧ v = .slice sp' N cap' ∧ Hid (wr.ownsRow w.heap.size 5 1 (.slice sp' N cap') N (Lib.byteCells (hexB (b.take k)))) ∧ Hid (Below w.heap.size w wr)) (fun _ i _ => n - (intOf i).toNat)
  case atStart => exact ⟨0, 0, none, 0, by omega, rfl, rfl, rfl, World.ownsRow_nil _ _ _ _, Below.refl _ _⟩
  case round =>
    obtain ⟨k, N, sp', cap', hk, rfl, hN, rfl, hown, hbe⟩ := hrel
    have hbs := hbe.out.size
    have hNb : N ≤ 2147483648 := by omega
    have HNE := Lib.hid hN; clear hN
    by_cases hlt : k < n
    · obtain ⟨bb, off, rfl, hbb, hcap, hc⟩ := HS.out.cells (by omega)
      have hd : decide ((k : Int) < (n : Int)) = true := by simp; omega
      have hx := HS.out.byt.at_ k
      have HE := Lib.hid (hexB_succ b k (by rw [HS.out.len]; exact hlt))
      have q1 : (0 : Int) ≤ (k : Int) := by omega
      have q2 : (k : Int) < (n : Int) := by omega
      have ck := (hbe.out.cell (p := ⟨bb, off + k, none⟩) hbb).trans (hc k hlt)
      have hx1 := hexl_index ((b.getD k 0).toNat / 16) (by omega)
      have hx2 := hexl_index ((b.getD k 0).toNat % 16) (by omega)
      rw [show (((b.getD k 0).toNat / 16 : Nat) : Int) = (b.getD k 0) / 16 by omega] at hx1
      rw [show (((b.getD k 0).toNat % 16 : Nat) : Int) = (b.getD k 0) % 16 by omega] at hx2
      have hand := and15H (b.getD k 0) hx.1 hx.2
      generalize b.getD k 0 = x at *
      obtain ⟨c1, hc1⟩ : ∃ c, hexl (x.toNat / 16) = c := ⟨_, rfl⟩
      obtain ⟨c2, hc2⟩ : ∃ c, hexl (x.toNat % 16) = c := ⟨_, rfl⟩
      rw [hc1] at hx1 HE
      rw [hc2] at hx2 HE
      clear hc1 hc2 hc
      have hl : (hexB (b.take k)).length = N := by rw [hexB_length, List.length_take, HS.out.len, HNE.out]; omega
      generalize hexB (b.take k) = T at *
      have HL := Lib.hid hl; clear hl
      have HKEEP : Hid (∀ w', Below w.heap.size wr w' → w'.cell? ⟨bb, off + k, none⟩ = some (.int .u8 x)) := fun w' h => (h.cell (p := ⟨bb, off + k, none⟩) hbb).trans ck
      go_wp2_with fail
      go_region_held3 (fun w' => w'.cell? ⟨bb, off + k, none⟩ = some (.int .u8 x)) (first | exact HKEEP.out _ (Below.refl _ _) | exact HKEEP.out _ (Below.refl _ _).drew | exact HKEEP.out _ ((Below.refl _ _).alloc hbs _) | exact HKEEP.out _ ((Below.refl _ _).alloc hbs _).drew | exact HKEEP.out _ (by assumption)) ((refine step_append_ownH rfl (.tmp 12) (.tmp 27) 42 (by rfl) w.heap.size 5 i0 (.int .u8 0) 1 1 Tryz.underlying42 HI0.out HZ0.out HZ1.out HZ2.out rfl (by decide) _ _ _ (by rfl) (by exact (hown.out.alloc _).drew) ⟨wr.heap.size, 0, none⟩ 2 2 (Lib.byteCells [c1, c2]) (by rfl) (by rfl) (by exact cells_newH _ _ _) (Lib.byteCells_one _) (by unfold maxLen; omega) (by omega) (by simp; omega) ?_; intro v' w1 hown1 hg1 _; have HO1 := Lib.hid hown1; clear hown1; have hbA : Below w.heap.size wr w1 := (((Below.refl _ _).alloc hbs _).drew).grown hg1 (by simp; omega) (own_baseC hown.out)))
      all_goals
        go_wp2
        have hbe1 := hbe.out.trans hbA
        obtain ⟨sp5, cap5, rfl⟩ := own_shapeC HO1.out
        go_roundw
        case rel =>
          refine ⟨k + 1, N + 2, sp5, cap5, by omega, by go_num, by have := HNE.out; omega, rfl, ?_, hbe1⟩
          have := HO1.out
          show World.ownsRow _ _ _ _ _ _ _
          rw [HE.out, Lib.byteCells_append]; exact this
        case measure => simp [intOf]; omega
    · obtain rfl : k = n := by omega
      have hd : decide ((k : Int) < (k : Int)) = false := by simp
      have hall : b.take k = b := List.take_of_length_le (by rw [HS.out.len]; exact Nat.le_refl _)
      rw [hall] at hown
      have hlen : (hexB b).length = N := by rw [hexB_length, HS.out.len, HNE.out]
      have ho := hown.out
      rw [← hlen] at ho
      have hcv := run_string_ownH ho
      rw [hlen] at hcv
      have HBE := Lib.hid hbe.out
      clear ho hlen hown hall
      obtain ⟨T, hT⟩ : ∃ T, hexB b = T := ⟨_, rfl⟩
      rw [hT] at hcv
      have HT := Lib.hid hT; clear hT
      go_wp2
      go_ret
      exact ⟨by rw [HT.out]; rfl, HBE.out⟩
end Go.Proofs.YtdjknefbaclleaaGreatDoor

namespace Go.Proofs.YtdjknefbaclleaaGreatDoor
open Go.RowKit

set_option maxRecDepth 100000 in
set_option maxHeartbeats 1000000 in
theorem refFormat_any (a : List Int) (w : World) (ha : a.length = 32) (hA : Byt a) :
    Calls Tryz.prog 12 #[.agg (a.map (Value.int .u8)).toArray] w fun e w' => e = .returned (.string ⟨([115, 104, 97, 50, 53, 54, 58] ++ hexB a).toArray⟩) ∧ Below w.heap.size w w' := by
  have HLA := Lib.hid ha; have HA := Lib.hid hA; clear ha hA
  have HR := Lib.hid (row_new w 29 .u8 a)
  have HB := Lib.hid (below_alloc w (.cells (a.map (Value.int .u8)).toArray 29))
  have HSZ := Lib.hid (alloc_size w (.cells (a.map (Value.int .u8)).toArray 29))
  go_enter Tryz.func12, Tryz.ntmps12
  go_wp2_with fail
  generalize hw0 : World.alloc w _ = w0
  rw [hw0] at HR HB HSZ
  clear hw0
  have hs0 := HSZ.out
  go_loopg [3, 4] 32 (fun g v i wx => ∃ (j N : Nat) (sp : Option Addr) (cap : Nat), j + g = 32 ∧ Hid (N = j) ∧ i = .int .i64 j ∧ v = .slice sp N cap ∧ Hid (wx.ownsRow w0.heap.size 5 1 (.slice sp N cap) N ((a.take j).map (Value.int .u8))) ∧ Hid (Below w0.heap.size w0 wx))
  case atStart => exact ⟨0, 0, none, 0, rfl, rfl, rfl, rfl, World.ownsRow_nil _ _ _ _, Below.refl _ _⟩
  case round =>
    obtain ⟨j, N, sp4, cap4, hjg, hN, rfl, rfl, hown, hbe⟩ := hrel
    have hbs := hbe.out.size
    have hNb : N ≤ 32 := by have := hN.out; omega
    by_cases hj : j < 32
    · have hc1 : decide ((j : Int) < 32) = true := by simp; omega
      have ca := (HR.out.below hbe.out (by omega)).get j (by rw [HLA.out]; exact hj)
      have q1 : (0 : Int) ≤ (j : Int) := by omega
      have q2 : (j : Int) < 32 := by omega
      obtain ⟨x, hx⟩ : ∃ x, a.getD j 0 = x := ⟨_, rfl⟩
      rw [hx] at ca
      have HX := Lib.hid hx; clear hx
      have HLL : Hid (N = (a.take j).length) := by show _ = _; rw [List.length_take, HLA.out, hN.out]; omega
      go_wp2_with (at_builtin; refine wpList_append_byte rfl (.tmp 9) (.tmp 13) 42 5 rfl Tryz.underlying42 Tryz.info5a w0.heap.size _ (a.take j) N rfl HLL.out (hown.out.alloc _) wr.heap.size x rfl (by simp) (by omega) (by simp; omega) ?_; intro sp5 cap5 w5 hown5 hg5)
      have hbe5 := (hbe.out.alloc hbs (.cells #[.int .u8 x] 5)).grown hg5 (by simp; omega) (own_baseC hown.out)
      go_roundg (32 - (j + 1))
      case measure => omega
      case rel =>
        refine ⟨j + 1, N + 1, sp5, cap5, by omega, by show _ = _; have := hN.out; omega, by go_num, rfl, ?_, hbe5⟩
        have := hown5.out
        show World.ownsRow _ _ _ _ _ _ _
        rw [take_snoc0 _ _ (by rw [HLA.out]; exact hj), HX.out]; exact this
    · obtain rfl : j = 32 := by omega
      have hN2 := hN.out
      rw [List.take_of_length_le (by rw [HLA.out]; exact Nat.le_refl _)] at hown
      have hc1 : decide ((32 : Int) < 32) = false := by decide
      rw [show ((32 : Nat) : Int) = 32 from rfl]
      subst hN2
      have ho := hown.out
      rw [← HLA.out] at ho
      obtain ⟨sp7, cap7, e7, hsrc, hnil⟩ := src_of_own ho HA.out
      injection e7 with e1 e2 e3
      subst e1 e3
      rw [HLA.out] at hsrc
      have HSRC := Lib.hid hsrc
      have HWR : Hid (Below w.heap.size w wr) := HB.out.trans (hbe.out.mono (by omega))
      have hadd : 7 + (hexB a).length ≤ 9223372036854775807 := by rw [hexB_length, HLA.out]; omega
      clear ho hsrc hnil hown hbe hN
      go_wp2_with fail
      refine (refHex_any sp4 32 cap4 a wr HSRC.out (by omega)).mono ?_
      rintro e w3 ⟨rfl, hb3⟩
      have HB3 := Lib.hid (HWR.out.trans (hb3.mono (by omega)))
      clear hb3
      go_wp2
      go_ret
      exact ⟨by congr 2, HB3.out⟩
end Go.Proofs.YtdjknefbaclleaaGreatDoor

namespace Go.Proofs.YtdjknefbaclleaaGreatDoor
open Go.RowKit

/-- the lower-case hexadecimal digits; the value of a digit, 16 if it is none -/
def hexd : List UInt8 := [48, 49, 50, 51, 52, 53, 54, 55, 56, 57, 97, 98, 99, 100, 101, 102]
def hexv (c : UInt8) : Nat := if 48 ≤ c.toNat ∧ c.toNat ≤ 57 then c.toNat - 48 else if 97 ≤ c.toNat ∧ c.toNat ≤ 102 then c.toNat - 87 else 16
theorem hexv_le (c : UInt8) : hexv c ≤ 16 := by unfold hexv; split <;> (try split) <;> omega
theorem index_hexlF : ∀ c : Fin 256, Lib.indexByte hexd (UInt8.ofNat c.val) = if hexv (UInt8.ofNat c.val) = 16 then -1 else (hexv (UInt8.ofNat c.val) : Int) := by decide +kernel
theorem index_hexl (c : UInt8) : Lib.indexByte hexd c = if hexv c = 16 then -1 else (hexv c : Int) := by
  have h := index_hexlF ⟨c.toNat, UInt8.toNat_lt _⟩
  simpa using h
/-- the byte at place i of what a text stands for; whether the digits at place i are digits; the first n -/
def hby (l : List UInt8) (i : Nat) : Int := ((16 * hexv (l.getD (2 * i) 0) + hexv (l.getD (2 * i + 1) 0) : Nat) : Int)
def hok1 (l : List UInt8) (i : Nat) : Bool := decide (hexv (l.getD (2 * i) 0) < 16) && decide (hexv (l.getD (2 * i + 1) 0) < 16)
def hok (l : List UInt8) (n : Nat) : Bool := (List.range n).all (hok1 l)
def hbs (l : List UInt8) (n : Nat) : List Int := (List.range n).map (hby l)
theorem hbs_length (l : List UInt8) (n : Nat) : (hbs l n).length = n := by simp [hbs]
theorem hok_succ (l : List UInt8) (k : Nat) : hok l (k + 1) = (hok l k && hok1 l k) := by unfold hok; rw [List.range_succ, List.all_append]; simp
theorem hbs_succ (l : List UInt8) (k : Nat) : hbs l (k + 1) = hbs l k ++ [hby l k] := by unfold hbs; rw [List.range_succ, List.map_append]; rfl
theorem hok_bad {l : List UInt8} {k n : Nat} (h : hok1 l k = false) (hk : k < n) : hok l n = false := by
  unfold hok
  rw [List.all_eq_false]
  exact ⟨k, by simpa using hk, by rw [h]; simp⟩
/-- the row on the way: k bytes written, the others as they were -/
theorem way_set (l : List UInt8) (L0 : List Int) (n k : Nat) (hl : L0.length = n) (hk : k < n) : (hbs l k ++ L0.drop k).set k (hby l k) = hbs l (k + 1) ++ L0.drop (k + 1) := by
  rw [List.set_append_right _ _ (by rw [hbs_length]; exact Nat.le_refl _), hbs_length, Nat.sub_self, hbs_succ, List.drop_eq_getElem_cons (l := L0) (i := k) (by omega), List.append_assoc]
  rfl
theorem way_length (l : List UInt8) (L0 : List Int) (n k : Nat) (hl : L0.length = n) (hk : k ≤ n) : (hbs l k ++ L0.drop k).length = n := by
  rw [List.length_append, hbs_length, List.length_drop]; omega
theorem or_hexlF : ∀ a b : Fin 16, (bits .or .i64 ((a.val : Int) * 16) (b.val : Int)) = ((16 * a.val + b.val : Nat) : Int) := by decide +kernel
theorem or_hexl (a b : Nat) (ha : a < 16) (hb : b < 16) : bits .or .i64 ((a : Int) * 16) (b : Int) = ((16 * a + b : Nat) : Int) := or_hexlF ⟨a, ha⟩ ⟨b, hb⟩
/-- what is written is read -/
theorem hexv_hexlF : ∀ n : Fin 16, hexv (hexl n.val) = n.val := by decide +kernel
theorem hexv_hexl (n : Nat) (h : n < 16) : hexv (hexl n) = n := hexv_hexlF ⟨n, h⟩
theorem hexB_at (a : List Int) (i : Nat) (h : i < a.length) : (hexB a).getD (2 * i) 0 = hexl ((a.getD i 0).toNat / 16) ∧ (hexB a).getD (2 * i + 1) 0 = hexl ((a.getD i 0).toNat % 16) := by
  induction a generalizing i with
  | nil => simp at h
  | cons x r ih =>
    match i with
    | 0 => exact ⟨rfl, rfl⟩
    | j + 1 =>
      have := ih j (by simpa using h)
      rw [show 2 * (j + 1) = 2 * j + 1 + 1 by omega]
      exact this
theorem hok_hexB (a : List Int) (ha : Byt a) : hok (hexB a) a.length = true := by
  unfold hok
  rw [List.all_eq_true]
  intro i hi
  have hi' : i < a.length := by simpa using hi
  have hx := ha.at_ i
  obtain ⟨h1, h2⟩ := hexB_at a i hi'
  unfold hok1
  rw [h1, h2, hexv_hexl _ (by omega), hexv_hexl _ (by omega), decide_eq_true (by omega), decide_eq_true (by omega)]; rfl
theorem hbs_hexB (a : List Int) (ha : Byt a) : hbs (hexB a) a.length = a := by
  apply List.ext_getElem
  · rw [hbs_length]
  · intro i h1 h2
    have hx := ha.at_ i
    obtain ⟨e1, e2⟩ := hexB_at a i h2
    have e : (hbs (hexB a) a.length)[i] = hby (hexB a) i := by simp [hbs]
    rw [e]; unfold hby
    rw [e1, e2, hexv_hexl _ (by omega), hexv_hexl _ (by omega)]
    have : a.getD i 0 = a[i] := by simp [List.getD_eq_getElem?_getD, List.getElem?_eq_getElem h2]
    rw [this] at hx ⊢; omega
end Go.Proofs.YtdjknefbaclleaaGreatDoor

namespace Go.Proofs.YtdjknefbaclleaaGreatDoor
open Go.RowKit

set_option maxHeartbeats 400000 in
set_option maxRecDepth 100000 in
theorem indexByteLite_anyH (s : ByteArray) (c : Int) (w : World) :
    Calls Tryz.prog 109 #[.string s, .int .u8 c] w fun e w' => e = .returned (.int .i64 (Lib.indexByte s.data.toList c.toNat.toUInt8)) ∧ w = w' := by
  go_enter Tryz.func109, Tryz.ntmps109
  go_wp2
  rw [run_callFunc_extern Tryz.func122 (by kernel_rfl) (by kernel_rfl) (by kernel_rfl) (e := Extern.BytealgIndexByte.indexByte) (by kernel_rfl), Lib.run_indexByteString]
  simp only [Result.andThen]
  rw [Oper.upon_value]
  go_wp2
  go_ret
  exact ⟨rfl, rfl⟩
set_option maxHeartbeats 400000 in
theorem indexByte_anyH (s : ByteArray) (c : Int) (w : World) :
    Calls Tryz.prog 90 #[.string s, .int .u8 c] w fun e w' => e = .returned (.int .i64 (Lib.indexByte s.data.toList c.toNat.toUInt8)) ∧ w = w' := by
  go_enter Tryz.func90, Tryz.ntmps90
  go_wp2_with (go_at_call 109; refine (indexByteLite_anyH _ _ _).mono ?_; rintro e w' ⟨rfl, rfl⟩)
  go_ret
  exact ⟨rfl, rfl⟩
theorem byteOfH (c : UInt8) : ((c.toNat : Int)).toNat.toUInt8 = c := by simp
theorem hexlIdx (c : UInt8) (w : World) :
    Calls Tryz.prog 90 #[.string ⟨#[48, 49, 50, 51, 52, 53, 54, 55, 56, 57, 97, 98, 99, 100, 101, 102]⟩, .int .u8 (c.toNat : Int)] w fun e w' => e = .returned (.int .i64 (if hexv c = 16 then -1 else (hexv c : Int))) ∧ w = w' :=
  (indexByte_anyH _ _ w).mono fun e w' ⟨he, hw⟩ => ⟨by rw [he, byteOfH, ← index_hexl]; rfl, hw⟩

theorem getD_data (s : ByteArray) (i : Nat) (h : i < s.size) : s.data.toList.getD i 0 = s[i] := by
  rw [List.getD_eq_getElem?_getD, List.getElem?_eq_getElem (by simpa using h)]; rfl
set_option maxRecDepth 100000 in
set_option maxHeartbeats 1000000 in
theorem unhex_any (g : Nat) (ty : TypeId) (L0 : List Int) (n : Nat) (s : ByteArray) (w : World) (hrow : RowIn w g ty .u8 L0) (hl : L0.length = n) (hn : n ≤ 64) :
    Calls Tryz.prog 62 #[.slice (some ⟨g, 0, none⟩) n n, .string s] w fun e w' => ∃ L : List Int, e = .returned (.bool (decide (s.size = 2 * n) && hok s.data.toList n)) ∧ L.length = n ∧ RowIn w' g ty .u8 L ∧ w.grownBy w' (some g) ∧ ((decide (s.size = 2 * n) && hok s.data.toList n) = true → L = hbs s.data.toList n) := by
  have HR := Lib.hid hrow; have HL := Lib.hid hl; clear hrow hl
  by_cases hsz : s.size = 2 * n
  · have HSZ := Lib.hid hsz
    have ht : ((s.size : Int) != 2 * (n : Int)) = false := by rw [bne_eq_false_iff_eq]; omega
    go_enter Tryz.func62, Tryz.ntmps62
    go_wp2_with fail
    go_loopw [16] (fun i wr => ∃ k : Nat, k ≤ n ∧ i = .int .i64 k ∧ Hid (hok s.data.toList k = true) ∧ Hid (RowIn wr g ty .u8 (hbs s.data.toList k ++ L0.drop k)) ∧ Hid (w.grownBy wr (some g))) (fun i _ => n - (intOf i).toNat)
    case atStart => exact ⟨0, by omega, rfl, rfl, HR.out, World.grownBy.refl _ _⟩
    case round =>
      obtain ⟨k, hk, rfl, hok0, hrow, hgr⟩ := hrel
      by_cases hlt : k < n
      · have hd : decide ((k : Int) < (n : Int)) = true := by simp; omega
        have p0 : 2 * k < s.size := by omega
        have p1 : 2 * k + 1 < s.size := by omega
        have p2 : (0 : Int) ≤ (k : Int) := by omega
        have p3 : (k : Int) < (n : Int) := by omega
        have p4 : (0 : Int) ≤ 2 * (k : Int) := by omega
        have p5 : 2 * (k : Int) < (s.size : Int) := by omega
        have p6 : (0 : Int) ≤ 2 * (k : Int) + 1 := by omega
        have p7 : 2 * (k : Int) + 1 < (s.size : Int) := by omega
        have p8 : (2 * (k : Int)).toNat = 2 * k := by omega
        have p9 : (2 * (k : Int) + 1).toNat = 2 * k + 1 := by omega
        have c0 := hrow.out.get k (by rw [way_length _ _ n k HL.out hk]; exact hlt)
        have f0 := hrow.out.free k
        obtain ⟨y, hy⟩ : ∃ y, (hbs s.data.toList k ++ L0.drop k).getD k 0 = y := ⟨_, rfl⟩
        rw [hy] at c0
        clear hy
        have g0 := getD_data s (2 * k) p0
        have g1 := getD_data s (2 * k + 1) p1
        have hl0 := hexv_le s[2 * k]
        have hl1 := hexv_le s[2 * k + 1]
        obtain ⟨x, hx⟩ : ∃ x, hexv s[2 * k] = x := ⟨_, rfl⟩
        obtain ⟨z, hz⟩ : ∃ z, hexv s[2 * k + 1] = z := ⟨_, rfl⟩
        have HO1 : Hid (hok1 s.data.toList k = (decide (x < 16) && decide (z < 16))) := by show _ = _; unfold hok1; rw [g0, g1, hx, hz]
        have HBY : Hid (hby s.data.toList k = ((16 * x + z : Nat) : Int)) := by show _ = _; unfold hby; rw [g0, g1, hx, hz]
        have HC0 := Lib.hid (fun w => hexlIdx s[2 * k] w)
        have HC1 := Lib.hid (fun w => hexlIdx s[2 * k + 1] w)
        rw [hx] at HC0 hl0
        rw [hz] at HC1 hl1
        have HSET := Lib.hid (way_set s.data.toList L0 n k HL.out hlt)
        have HSUC := Lib.hid (hok_succ s.data.toList k)
        clear g0 g1 hx hz
        have HROW := hrow; have HGR := hgr; clear hrow hgr
        by_cases hbad : x = 16 ∨ z = 16
        · have HF : Hid ((decide (s.size = 2 * n) && hok s.data.toList n) = false) := by
            show _ = _
            rw [hok_bad (k := k) (by rw [HO1.out]; rcases hbad with h | h <;> simp [h]) hlt, Bool.and_false]
          have HWL := Lib.hid (way_length s.data.toList L0 n k HL.out hk)
          have main : ∀ (hi lo : Int), (if x = 16 then (-1 : Int) else (x : Int)) = hi → (if z = 16 then (-1 : Int) else (z : Int)) = lo → hi < 0 ∨ (¬ hi < 0 ∧ lo < 0) := by
            intro hi lo h1 h2
            rcases hbad with h | h
            · left; rw [if_pos h] at h1; omega
            · by_cases hh : x = 16
              · left; rw [if_pos hh] at h1; omega
              · right; rw [if_neg hh] at h1; rw [if_pos h] at h2; exact ⟨by omega, by omega⟩
          obtain ⟨hi, hhi⟩ : ∃ v, (if x = 16 then (-1 : Int) else (x : Int)) = v := ⟨_, rfl⟩
          obtain ⟨lo, hlo⟩ : ∃ v, (if z = 16 then (-1 : Int) else (z : Int)) = v := ⟨_, rfl⟩
          have hm := main hi lo hhi hlo
          rw [hhi] at HC0
          rw [hlo] at HC1
          clear main hhi hlo hbad HO1 HBY HSET HSUC
          rcases hm with hn0 | ⟨hn0, hn1⟩
          · have e1 : decide (hi < 0) = true := by simp; omega
            go_wp2_with fail
            refine (HC0.out _).mono ?_
            rintro e w5 ⟨rfl, rfl⟩
            go_wp2_with fail
            refine (HC1.out _).mono ?_
            rintro e w5 ⟨rfl, rfl⟩
            go_wp2_with fail
            go_ret
            exact ⟨_, by rw [HF.out]; rfl, HWL.out, HROW.out, HGR.out, fun h => by rw [HF.out] at h; cases h⟩
          · have e1 : decide (hi < 0) = false := by simp; omega
            have e2 : decide (lo < 0) = true := by simp; omega
            go_wp2_with fail
            refine (HC0.out _).mono ?_
            rintro e w5 ⟨rfl, rfl⟩
            go_wp2_with fail
            refine (HC1.out _).mono ?_
            rintro e w5 ⟨rfl, rfl⟩
            go_wp2_with fail
            go_ret
            exact ⟨_, by rw [HF.out]; rfl, HWL.out, HROW.out, HGR.out, fun h => by rw [HF.out] at h; cases h⟩
        · have hx16 : x < 16 := by omega
          have hz16 : z < 16 := by omega
          rw [if_neg (by omega)] at HC0 HC1
          have HOK : Hid (hok s.data.toList (k + 1) = true) := by show _ = _; rw [HSUC.out, hok0.out, HO1.out, decide_eq_true hx16, decide_eq_true hz16]; rfl
          have hor := or_hexl x z hx16 hz16
          obtain ⟨m, hm⟩ : ∃ m, 16 * x + z = m := ⟨_, rfl⟩
          rw [hm] at HBY hor
          have hm256 : m < 256 := by omega
          have hw1 : ((m : Nat) : Int) % 256 = (m : Int) := by omega
          have e1 : decide ((x : Int) < 0) = false := by simp
          have e2 : decide ((z : Int) < 0) = false := by simp
          clear HO1 HSUC hbad hm
          go_wp2_with fail
          refine (HC0.out _).mono ?_
          rintro e w5 ⟨rfl, rfl⟩
          go_wp2_with fail
          refine (HC1.out _).mono ?_
          rintro e w5 ⟨rfl, rfl⟩
          go_wp2_with fail
          go_roundw
          case rel =>
            refine ⟨k + 1, by omega, by go_num, HOK, ?_, grown_set HGR.out _ _⟩
            have := HROW.out.put k (hby s.data.toList k)
            rw [HSET.out, HBY.out] at this
            exact this
          case measure => simp [intOf]; omega
      · obtain rfl : k = n := by omega
        have hd : decide ((k : Int) < (k : Int)) = false := by simp
        have hall : hbs s.data.toList k ++ L0.drop k = hbs s.data.toList k := by rw [List.drop_eq_nil_of_le (by rw [HL.out]; exact Nat.le_refl _), List.append_nil]
        have HROW := hrow.out; rw [hall] at HROW
        have HT : Hid ((decide (s.size = 2 * k) && hok s.data.toList k) = true) := by show _ = _; rw [hok0.out, decide_eq_true hsz]; rfl
        have HRR := Lib.hid HROW; clear HROW hall hrow hsz
        go_wp2_with fail
        go_ret
        exact ⟨_, by rw [HT.out]; rfl, hbs_length _ _, HRR.out, hgr.out, fun _ => rfl⟩
  · have ht : ((s.size : Int) != 2 * (n : Int)) = true := by rw [bne_iff_ne]; omega
    have hz : (decide (s.size = 2 * n) && hok s.data.toList n) = false := by rw [decide_eq_false hsz]; rfl
    rw [hz]
    clear hz hsz
    go_enter Tryz.func62, Tryz.ntmps62
    go_wp2
    go_ret
    exact ⟨L0, rfl, HL.out, HR.out, World.grownBy.refl _ _, fun h => by cases h⟩
end Go.Proofs.YtdjknefbaclleaaGreatDoor

namespace Go.Proofs.YtdjknefbaclleaaGreatDoor
open Go.RowKit

/-- whether a text is n bytes' digits; the bytes, zeros if it is not -/
def pok (l : List UInt8) (n : Nat) : Bool := decide (l.length = 2 * n) && hok l n
def pby (l : List UInt8) (n : Nat) : List Int := if pok l n = true then hbs l n else List.replicate n 0
theorem results_row_tmp {P : Program} {fn : Func} {p u : Tmp} {ty : TypeId} (h : fn.results = #[.cell p ty, .tmp u]) (tmps : Array Value) (w : World) (g : Nat) (t : TypeId) (cs : Array Value) (fr : Nat × Nat) (d : TypeDesc)
    (hp : tmps.getD p undef = .pointer (some ⟨g, 0, none⟩)) (hg : w.heap[g]? = some (.cells cs t fr))
    (hu : P.underlying ty = some d) (hd : (match d with | .struct _ | .array _ _ => true | _ => false) = true) (hi : (P.info? ty).map (·.size) = some cs.size) :
    (results fn tmps).run P w = .ok (.tuple #[.agg cs, tmps.getD u undef]) w := by
  rw [results_cell_tmp h, hp]
  simp [asAddr, run_loadVar_row w g t ty cs fr d hg hu hd hi]

/-- a row of zeros, its value behind a name -/
def zrow (n : Nat) : Array Value := ((List.replicate n (0 : Int)).map (Value.int .u8)).toArray
theorem bzD (w : World) : (Instr.build 29 #[]).run Tryz.prog w = .ok (.agg (zrow 32)) w := by kernel_rfl
theorem row_info32 (L : List Int) (h : L.length = 32) : (Tryz.prog.info? 29).map (·.size) = some (L.map (Value.int .u8)).toArray.size := by rw [List.size_toArray, List.length_map, h]; exact Tryz.info25d
theorem row_sizes (A L : List Int) (h : A.length = L.length) : (A.map (Value.int .u8)).toArray.size = (L.map (Value.int .u8)).toArray.size := by simp [h]
end Go.Proofs.YtdjknefbaclleaaGreatDoor

namespace Go.Proofs.YtdjknefbaclleaaGreatDoor
open Go.RowKit

/-- the prefix of a digest's text -/
def pfx : ByteArray := ⟨#[115, 104, 97, 50, 53, 54, 58]⟩
theorem ext_data (s : ByteArray) (i j : Nat) : (s.extract i j).data.toList = (s.data.toList.take j).drop i := by
  rw [ByteArray.data_extract, Array.toList_extract, List.extract_eq_take_drop, List.drop_take]
theorem take_eq (s : ByteArray) : ((s.extract 0 7).toList == pfx.toList) = decide (s.data.toList.take 7 = pfx.data.toList) := by
  rw [Lib.toList_data, Lib.toList_data, ext_data, List.drop_zero, Bool.eq_iff_iff, beq_iff_eq, decide_eq_true_iff]
theorem ret_boolH {a b : Bool} (h : a = b) : Ending.returned (.bool a) = .returned (.bool b) := by rw [h]
set_option maxRecDepth 100000 in
set_option maxHeartbeats 1000000 in
theorem hasPrefix_any (s : ByteArray) (w : World) (hs : s.size ≤ 9223372036854775807) :
    Calls Tryz.prog 108 #[.string s, .string pfx] w fun e w' => e = .returned (.bool (decide (s.data.toList.take 7 = pfx.data.toList))) ∧ w = w' := by
  by_cases h7 : 7 ≤ s.size
  · have hd : decide ((s.size : Int) ≥ 7) = true := by simp; omega
    have q1 : (7 : Int) ≤ (s.size : Int) := by omega
    have hp : pfx.size = 7 := rfl
    go_enter Tryz.func108, Tryz.ntmps108
    go_wp2_with fail
    go_ret
    exact ⟨ret_boolH (take_eq s), rfl⟩
  · have hp : pfx.size = 7 := rfl
    go_enter Tryz.func108, Tryz.ntmps108
    go_wp2_with fail
    go_ret
    refine ⟨ret_boolH (decide_eq_false (fun h => ?_)).symm, rfl⟩; have := congrArg List.length h; rw [List.length_take, ← Lib.size_eq] at this; rw [show pfx.data.toList.length = 7 from rfl] at this; omega
set_option maxRecDepth 100000 in
set_option maxHeartbeats 1000000 in
theorem cutLite_any (s : ByteArray) (w : World) (hs : s.size ≤ 9223372036854775807) :
    Calls Tryz.prog 89 #[.string s, .string pfx] w fun e w' => e = .returned (if s.data.toList.take 7 = pfx.data.toList then .tuple #[.string (s.extract 7 s.size), .bool true] else .tuple #[.string s, .bool false]) ∧ w = w' := by
  have HP := Lib.hid (fun w => hasPrefix_any s w hs)
  have hp : pfx.size = 7 := rfl
  by_cases hb : s.data.toList.take 7 = pfx.data.toList
  · have h7 : 7 ≤ s.size := by
      have := congrArg List.length hb; rw [List.length_take, ← Lib.size_eq] at this; rw [show pfx.data.toList.length = 7 from rfl] at this; omega
    have q1 : (7 : Int) ≤ (s.size : Int) := by omega
    rw [decide_eq_true hb] at HP
    rw [if_pos hb]
    clear hb
    go_enter Tryz.func89, Tryz.ntmps89
    go_wp2_with fail
    refine (HP.out _).mono ?_
    rintro e w' ⟨rfl, rfl⟩
    go_wp2_with fail
    go_ret2
    exact ⟨rfl, rfl⟩
  · rw [decide_eq_false hb] at HP
    rw [if_neg hb]
    clear hb
    go_enter Tryz.func89, Tryz.ntmps89
    go_wp2_with fail
    refine (HP.out _).mono ?_
    rintro e w' ⟨rfl, rfl⟩
    go_wp2_with fail
    go_ret2
    exact ⟨rfl, rfl⟩
set_option maxRecDepth 100000 in
set_option maxHeartbeats 1000000 in
theorem cut_any (s : ByteArray) (w : World) (hs : s.size ≤ 9223372036854775807) :
    Calls Tryz.prog 61 #[.string s, .string pfx] w fun e w' => e = .returned (if s.data.toList.take 7 = pfx.data.toList then .tuple #[.string (s.extract 7 s.size), .bool true] else .tuple #[.string s, .bool false]) ∧ w = w' := by
  have HP := Lib.hid (fun w => cutLite_any s w hs)
  by_cases hb : s.data.toList.take 7 = pfx.data.toList
  · rw [if_pos hb] at HP ⊢
    clear hb
    go_enter Tryz.func61, Tryz.ntmps61
    go_wp2_with fail
    refine (HP.out _).mono ?_
    rintro e w' ⟨rfl, rfl⟩
    go_wp2_with fail
    go_ret2
    exact ⟨rfl, rfl⟩
  · rw [if_neg hb] at HP ⊢
    clear hb
    go_enter Tryz.func61, Tryz.ntmps61
    go_wp2_with fail
    refine (HP.out _).mono ?_
    rintro e w' ⟨rfl, rfl⟩
    go_wp2_with fail
    go_ret2
    exact ⟨rfl, rfl⟩
end Go.Proofs.YtdjknefbaclleaaGreatDoor

namespace Go.Proofs.YtdjknefbaclleaaGreatDoor
open Go.RowKit

/-- whether a text is a digest's; its bytes, zeros if it is not -/
def ppok (l : List UInt8) : Bool := decide (l.take 7 = pfx.data.toList) && pok (l.drop 7) 32
def ppby (l : List UInt8) : List Int := if ppok l = true then hbs (l.drop 7) 32 else List.replicate 32 0
set_option maxRecDepth 100000 in
set_option maxHeartbeats 1000000 in
theorem Parse_any (s : ByteArray) (w : World) (hs : s.size ≤ 9223372036854775807) :
    Calls Tryz.prog 44 #[.string s] w fun e w' => e = .returned (.tuple #[.agg ((ppby s.data.toList).map (Value.int .u8)).toArray, .bool (ppok s.data.toList)]) ∧ Below w.heap.size w w' := by
  have HR := Lib.hid (row_new w 29 .u8 (List.replicate 32 0))
  have HB := Lib.hid (below_alloc w (.cells ((List.replicate 32 0).map (Value.int .u8)).toArray 29))
  have HSZ := Lib.hid (alloc_size w (.cells ((List.replicate 32 0).map (Value.int .u8)).toArray 29))
  have HC : Hid (∀ w, Calls Tryz.prog 61 #[.string s, .string ⟨#[115, 104, 97, 50, 53, 54, 58]⟩] w fun e w' => e = .returned (if s.data.toList.take 7 = pfx.data.toList then .tuple #[.string (s.extract 7 s.size), .bool true] else .tuple #[.string s, .bool false]) ∧ w = w') := fun w => cut_any s w hs
  have hbz := bzD
  have HDD : Hid ((s.extract 7 s.size).data.toList = s.data.toList.drop 7) := by show _ = _; rw [ext_data, List.take_of_length_le (by rw [← Lib.size_eq]; exact Nat.le_refl _)]
  clear hs
  go_enter Tryz.func44, Tryz.ntmps44
  go_wp2_with fail
  generalize hw0 : World.alloc w _ = w0
  have hr0 : RowIn w0 w.heap.size 29 .u8 (List.replicate 32 0) := by rw [← hw0]; exact HR.out
  have hb0 : Below w.heap.size w w0 := by rw [← hw0]; exact HB.out
  have hs0 : w0.heap.size = w.heap.size + 1 := by rw [← hw0]; exact HSZ.out
  clear hw0 HR HB HSZ
  have hr1 : RowIn (w0.alloc (.cells (Array.replicate 32 (Value.int .u8 0)) 29)) w0.heap.size 29 .u8 (List.replicate 32 0) := row_new w0 29 .u8 (List.replicate 32 0)
  have hb1 := below_alloc w0 (.cells (Array.replicate 32 (Value.int .u8 0)) 29)
  generalize hw1 : World.alloc w0 _ = w1
  have hr1' : RowIn w1 (w.heap.size + 1) 29 .u8 (List.replicate 32 0) := by rw [← hw1, ← hs0]; exact hr1
  have hb1' : Below w0.heap.size w0 w1 := by rw [← hw1]; exact hb1
  clear hw1 hr1 hb1
  have hr01 := hr0.below hb1' (by omega)
  have hbe1 := hb0.trans (hb1'.mono (by omega))
  have HR1 := Lib.hid hr1'; have HR01 := Lib.hid hr01; have HBE1 := Lib.hid hbe1
  clear hr0 hb0 hs0 hr1' hb1' hr01 hbe1
  have HPB : Hid (ppby s.data.toList = if ppok s.data.toList = true then hbs (s.data.toList.drop 7) 32 else List.replicate 32 0) := rfl
  have HI : Hid ((Tryz.prog.info? 29).map (·.size) = some (zrow 32).size) := row_info32 (List.replicate 32 0) (by simp)
  have HO : Hid ((zrow 32).all (·.oneCell') = true) := oneCell_map .u8 _
  have HS : Hid (((List.replicate 32 (0 : Int)).map (Value.int .u8)).toArray.size = (zrow 32).size) := rfl
  refine (HC.out _).mono ?_
  by_cases hb : s.data.toList.take 7 = pfx.data.toList
  · have HP : Hid (ppok s.data.toList = (decide ((s.extract 7 s.size).size = 2 * 32) && hok (s.extract 7 s.size).data.toList 32)) := by show _ = _; unfold ppok pok; rw [decide_eq_true hb, Bool.true_and, Lib.size_eq, HDD.out]
    rw [if_pos hb]
    clear hb
    rintro e w' ⟨rfl, rfl⟩
    go_wp2_with fail
    refine (unhex_any (w.heap.size + 1) 29 (List.replicate 32 0) 32 (s.extract 7 s.size) _ HR1.out (by simp) (by omega)).mono ?_
    rintro e w2 ⟨L, rfl, hL, hr2, hgr, hfin⟩
    have HR2 := Lib.hid hr2
    have HR0 := Lib.hid (HR01.out.grown hgr (by omega))
    have HBE : Hid (Below w.heap.size w w2) := HBE1.out.trans ((below_of_grown hgr (by have := HR1.out.lt; omega)).mono (by omega))
    rw [HDD.out] at hfin HP ⊢
    clear hr2 hgr
    generalize (decide ((s.extract 7 s.size).size = 2 * 32) && hok (s.data.toList.drop 7) 32) = bv at *
    have HLL := Lib.hid hL; clear hL
    cases bv
    · have HPB2 : Hid (ppby s.data.toList = List.replicate 32 0) := by show _ = _; rw [HPB.out, if_neg (by rw [HP.out]; simp)]
      clear hfin
      go_wp2_with (refine wpList_store_row rfl 29 _ _ rfl w.heap.size (zrow 32) rfl rfl 29 _ HR0.out HI.out HS.out HO.out ?_)
      exact bodyPost_ret (results_row_tmp (P := Tryz.prog) rfl _ _ w.heap.size 29 (zrow 32) (0, 0) _ rfl (setRow_heap _ _ _ _ _ _ HR0.out) Tryz.underlying29 rfl HI.out) rfl ⟨by rw [HPB2.out, HP.out]; rfl, below_setRow HBE.out (Nat.le_refl _) _⟩
    · have HPB2 : Hid (ppby s.data.toList = L) := by show _ = _; rw [HPB.out, if_pos HP.out, hfin rfl]
      clear hfin hbz
      have HI := Lib.hid (row_info32 L HLL.out); have HO := Lib.hid (oneCell_map .u8 L); have HS := Lib.hid (row_sizes (List.replicate 32 0) L (by rw [HLL.out]; simp))
      go_wp2_with (first
        | (refine wpList_load_row rfl 29 _ rfl (w.heap.size + 1) rfl 29 _ (0, 0) _ HR2.out Tryz.underlying29 rfl HI.out ?_)
        | (refine wpList_store_row rfl 29 _ _ rfl w.heap.size _ rfl rfl 29 _ HR0.out HI.out HS.out HO.out ?_))
      exact bodyPost_ret (results_row_tmp (P := Tryz.prog) rfl _ _ w.heap.size 29 _ (0, 0) _ rfl (HR0.out.setRow _) Tryz.underlying29 rfl HI.out) rfl ⟨by rw [HPB2.out, HP.out]; rfl, below_setRow HBE.out (Nat.le_refl _) _⟩
  · have HP : Hid (ppok s.data.toList = false) := by show _ = _; unfold ppok; rw [decide_eq_false hb]; rfl
    have HPB2 : Hid (ppby s.data.toList = List.replicate 32 0) := by show _ = _; rw [HPB.out, if_neg (by rw [HP.out]; simp)]
    rw [if_neg hb]
    clear hb
    rintro e w' ⟨rfl, rfl⟩
    go_wp2_with (refine wpList_store_row rfl 29 _ _ rfl w.heap.size (zrow 32) rfl rfl 29 _ HR01.out HI.out HS.out HO.out ?_)
    exact bodyPost_ret (results_row_tmp (P := Tryz.prog) rfl _ _ w.heap.size 29 (zrow 32) (0, 0) _ rfl (setRow_heap _ _ _ _ _ _ HR01.out) Tryz.underlying29 rfl HI.out) rfl ⟨by rw [HPB2.out, HP.out]; rfl, below_setRow HBE1.out (Nat.le_refl _) _⟩
end Go.Proofs.YtdjknefbaclleaaGreatDoor

namespace Go.Proofs.YtdjknefbaclleaaGreatDoor
open Go.RowKit

theorem ret_intH {k : IntKind} {a b : Int} (h : a = b) : Ending.returned (.int k a) = .returned (.int k b) := by rw [h]
set_option maxHeartbeats 400000 in
theorem refValue_any (c : UInt8) (w : World) :
    Calls Tryz.prog 83 #[.int .u8 (c.toNat : Int)] w fun e w' => e = .returned (.int .i64 (hexv c : Int)) ∧ w = w' := by
  obtain ⟨n, hn⟩ : ∃ n, c.toNat = n := ⟨_, rfl⟩
  have hv : hexv c = if 48 ≤ n ∧ n ≤ 57 then n - 48 else if 97 ≤ n ∧ n ≤ 102 then n - 87 else 16 := by unfold hexv; rw [hn]
  have hlt : n < 256 := by rw [← hn]; exact UInt8.toNat_lt _
  rw [hn]
  have HV := Lib.hid hv; clear hv hn
  generalize hexv c = v at *
  by_cases h1 : 48 ≤ n
  · by_cases h2 : n ≤ 57
    · have e1 : decide ((n : Int) ≥ 48) = true := by simp; omega
      have e2 : decide ((n : Int) ≤ 57) = true := by simp; omega
      go_enter Tryz.func83, Tryz.ntmps83
      go_wp2
      go_ret
      exact ⟨ret_intH (by rw [HV.out, if_pos ⟨h1, h2⟩]; omega), rfl⟩
    · have e1 : decide ((n : Int) ≥ 48) = true := by simp; omega
      have e2 : decide ((n : Int) ≤ 57) = false := by simp; omega
      by_cases h3 : 97 ≤ n
      · have e3 : decide ((n : Int) ≥ 97) = true := by simp; omega
        by_cases h4 : n ≤ 102
        · have e4 : decide ((n : Int) ≤ 102) = true := by simp; omega
          go_enter Tryz.func83, Tryz.ntmps83
          go_wp2
          go_ret
          exact ⟨ret_intH (by rw [HV.out, if_neg (by omega), if_pos ⟨h3, h4⟩]; omega), rfl⟩
        · have e4 : decide ((n : Int) ≤ 102) = false := by simp; omega
          go_enter Tryz.func83, Tryz.ntmps83
          go_wp2
          go_ret
          exact ⟨ret_intH (by rw [HV.out, if_neg (by omega), if_neg (by omega)]; rfl), rfl⟩
      · have e3 : decide ((n : Int) ≥ 97) = false := by simp; omega
        go_enter Tryz.func83, Tryz.ntmps83
        go_wp2
        go_ret
        exact ⟨ret_intH (by rw [HV.out, if_neg (by omega), if_neg (by omega)]; rfl), rfl⟩
  · have e1 : decide ((n : Int) ≥ 48) = false := by simp; omega
    have e3 : decide ((n : Int) ≥ 97) = false := by simp; omega
    go_enter Tryz.func83, Tryz.ntmps83
    go_wp2
    go_ret
    exact ⟨ret_intH (by rw [HV.out, if_neg (by omega), if_neg (by omega)]; rfl), rfl⟩
end Go.Proofs.YtdjknefbaclleaaGreatDoor

namespace Go.Proofs.YtdjknefbaclleaaGreatDoor
open Go.RowKit

def UnhRes (w : World) (l : List UInt8) (n : Nat) (e : Ending) (w' : World) : Prop :=
  ∃ sp cap, e = .returned (.tuple #[.slice sp (if pok l n = true then n else 0) cap, .bool (pok l n)]) ∧ Src w' w'.heap.size sp (if pok l n = true then n else 0) cap (if pok l n = true then hbs l n else []) ∧ Below w.heap.size w w' ∧ ∀ a, sp = some a → w.heap.size ≤ a.block
theorem hbs_byt0 {l : List UInt8} {n : Nat} (h : ∀ i, i < n → hexv (l.getD (2 * i) 0) < 16 ∧ hexv (l.getD (2 * i + 1) 0) < 16) : Byt (hbs l n) := fun x hx => by
  unfold hbs at hx
  obtain ⟨i, hi, rfl⟩ := List.mem_map.1 hx
  have := h i (by simpa using hi)
  unfold hby; omega
theorem hok_at0 {l : List UInt8} {n : Nat} (h : hok l n = true) (i : Nat) (hi : i < n) : hexv (l.getD (2 * i) 0) < 16 ∧ hexv (l.getD (2 * i + 1) 0) < 16 := by
  unfold hok at h
  have := (List.all_eq_true.1 h) i (by simpa using hi)
  unfold hok1 at this
  simpa using this
theorem src_nil (w : World) : Src w w.heap.size none 0 0 [] := ⟨rfl, (fun x hx => by cases hx), fun h => absurd h (by omega)⟩
set_option maxRecDepth 100000 in
set_option maxHeartbeats 1000000 in
theorem refUnhex_any (s : ByteArray) (n : Nat) (w : World) (hn : n ≤ 64) :
    Calls Tryz.prog 57 #[.string s, .int .i64 (n : Int)] w (UnhRes w s.data.toList n) := by
  by_cases hsz : s.size = 2 * n
  · have HPK : Hid (pok s.data.toList n = hok s.data.toList n) := by show _ = _; unfold pok; rw [← Lib.size_eq, decide_eq_true hsz]; rfl
    have ht : ((s.size : Int) != 2 * (n : Int)) = false := by rw [bne_eq_false_iff_eq]; omega
    go_enter Tryz.func57, Tryz.ntmps57
    go_wp2_with fail
    go_loopw [6, 7] (fun v i wr => ∃ (k N : Nat) (sp' : Option Addr) (cap' : Nat), k ≤ n ∧ i = .int .i64 k ∧ Hid (N = k) ∧ N ≤ 64 ∧ v = .slice sp' N cap' ∧ Hid (hok s.data.toList k = true) ∧ Hid (wr.ownsRow w.heap.size 5 1 (.slice sp' N cap') N ((hbs s.data.toList k).map (Value.int .u8))) ∧ Hid (Below w.heap.size w wr)) (fun _ i _ => n - (intOf i).toNat)
    case atStart => exact ⟨0, 0, none, 0, by omega, rfl, rfl, by omega, rfl, rfl, World.ownsRow_nil _ _ _ _, Below.refl _ _⟩
    case round =>
      obtain ⟨k, N, sp', cap', hk, rfl, hN, hNb, rfl, hok0, hown, hbe⟩ := hrel
      have hwz := hbe.out.size
      by_cases hlt : k < n
      · have hd : decide ((k : Int) < (n : Int)) = true := by simp; omega
        have p0 : 2 * k < s.size := by omega
        have p1 : 2 * k + 1 < s.size := by omega
        have p2 : (0 : Int) ≤ (k : Int) := by omega
        have p4 : (0 : Int) ≤ 2 * (k : Int) := by omega
        have p5 : 2 * (k : Int) < (s.size : Int) := by omega
        have p6 : (0 : Int) ≤ 2 * (k : Int) + 1 := by omega
        have p7 : 2 * (k : Int) + 1 < (s.size : Int) := by omega
        have p8 : (2 * (k : Int)).toNat = 2 * k := by omega
        have p9 : (2 * (k : Int) + 1).toNat = 2 * k + 1 := by omega
        have q1 : IntKind.i64.wrap (2 * (k : Int)) = 2 * (k : Int) := IntWalk.i64_in _ (by omega)
        have q2 : IntKind.i64.wrap (2 * (k : Int) + 1) = 2 * (k : Int) + 1 := IntWalk.i64_in _ (by omega)
        have g0 := getD_data s (2 * k) p0
        have g1 := getD_data s (2 * k + 1) p1
        have hl0 := hexv_le s[2 * k]
        have hl1 := hexv_le s[2 * k + 1]
        obtain ⟨x, hx⟩ : ∃ x, hexv s[2 * k] = x := ⟨_, rfl⟩
        obtain ⟨z, hz⟩ : ∃ z, hexv s[2 * k + 1] = z := ⟨_, rfl⟩
        have HO1 : Hid (hok1 s.data.toList k = (decide (x < 16) && decide (z < 16))) := by show _ = _; unfold hok1; rw [g0, g1, hx, hz]
        have HBY : Hid (hby s.data.toList k = ((16 * x + z : Nat) : Int)) := by show _ = _; unfold hby; rw [g0, g1, hx, hz]
        have HC0 := Lib.hid (fun w => refValue_any s[2 * k] w)
        have HC1 := Lib.hid (fun w => refValue_any s[2 * k + 1] w)
        rw [hx] at HC0 hl0
        rw [hz] at HC1 hl1
        have HSUC := Lib.hid (hok_succ s.data.toList k)
        have HBS := Lib.hid (hbs_succ s.data.toList k)
        have HLN : Hid (N = (hbs s.data.toList k).length) := by show _ = _; rw [hbs_length]; exact hN.out
        clear g0 g1 hx hz
        by_cases hbad : x = 16 ∨ z = 16
        · have HF : Hid (pok s.data.toList n = false) := by show _ = _; rw [HPK.out, hok_bad (k := k) (by rw [HO1.out]; rcases hbad with h | h <;> simp [h]) hlt]
          have e1 : (((x : Int) == 16) || ((z : Int) == 16)) = true := by rcases hbad with h | h <;> simp [h]
          have hcs : ((x : Int) == 16) = true ∨ (((x : Int) == 16) = false ∧ ((z : Int) == 16) = true) := by
            by_cases h : x = 16
            · left; simp [h]
            · right
              rcases hbad with h2 | h2
              · exact absurd h2 h
              · exact ⟨by simp; omega, by simp [h2]⟩
          clear hbad HO1 HBY HSUC e1
          rcases hcs with e1 | ⟨e1, e2⟩
          all_goals
            go_wp2_with fail
            go_region_held3 (fun _ => True) (trivial) (first
              | (go_at_call 83; (with_reducible refine (HC0.out _).mono ?_); rintro e w5 ⟨rfl, rfl⟩)
              | (go_at_call 83; (with_reducible refine (HC1.out _).mono ?_); rintro e w5 ⟨rfl, rfl⟩))
            all_goals
              go_wp2_with fail
              go_ret2
              refine ⟨none, 0, ?_, ?_, hbe.out.drew, fun a h => by cases h⟩
              · rw [HF.out]; rfl
              · rw [HF.out]; exact src_nil _
        · have hx16 : x < 16 := by omega
          have hz16 : z < 16 := by omega
          have e1 : ((x : Int) == 16) = false := by simp; omega
          have e2 : ((z : Int) == 16) = false := by simp; omega
          have HOK : Hid (hok s.data.toList (k + 1) = true) := by show _ = _; rw [HSUC.out, hok0.out, HO1.out, decide_eq_true hx16, decide_eq_true hz16]; rfl
          obtain ⟨m, hm⟩ : ∃ m, 16 * x + z = m := ⟨_, rfl⟩
          rw [hm] at HBY
          have hm256 : m < 256 := by omega
          have r1 : 16 * (x : Int) + (z : Int) = (m : Int) := by omega
          have r2 : ((m : Nat) : Int) % 256 = (m : Int) := by omega
          clear HO1 HSUC hbad hm
          go_wp2_with fail
          go_region_held3 (fun _ => True) (trivial) (first
            | (go_at_call 83; (with_reducible refine (HC0.out _).mono ?_); rintro e w5 ⟨rfl, rfl⟩)
            | (go_at_call 83; (with_reducible refine (HC1.out _).mono ?_); rintro e w5 ⟨rfl, rfl⟩))
          all_goals
            go_wp2_with (at_builtin; refine wpList_append_byte rfl (.tmp 37) (.tmp 43) 42 5 rfl Tryz.underlying42 Tryz.info5a w.heap.size _ (hbs s.data.toList k) N rfl HLN.out (hown.out.drew.alloc _) wr.heap.size (m : Int) rfl (by simp) (by omega) (by simp; omega) ?_; intro sp5 cap5 w5 hown5 hg5)
            have hbe5 := (hbe.out.drew.alloc hwz (.cells #[.int .u8 (m : Int)] 5)).grown hg5 (by simp; omega) (own_baseC hown.out)
            go_roundw
            case rel =>
              refine ⟨k + 1, N + 1, sp5, cap5, by omega, by go_num, by show _ = _; have := hN.out; omega, by have := hN.out; omega, rfl, HOK, ?_, hbe5⟩
              have := hown5.out
              show World.ownsRow _ _ _ _ _ _ _
              rw [HBS.out, HBY.out]; exact this
            case measure => simp [intOf]; omega
      · obtain rfl : k = n := by omega
        have hd : decide ((k : Int) < (k : Int)) = false := by simp
        have HT : Hid (pok s.data.toList k = true) := by show _ = _; rw [HPK.out, hok0.out]
        have hN2 := hN.out
        have hln : (hbs s.data.toList k).length = N := by rw [hbs_length]; exact hN2.symm
        have ho : wr.ownsRow w.heap.size 5 1 (.slice sp' N cap') (hbs s.data.toList k).length ((hbs s.data.toList k).map (Value.int .u8)) := by rw [hln]; exact hown.out
        obtain ⟨sp7, cap7, e7, hsrc, _⟩ := src_of_own ho (hbs_byt0 (fun i hi => hok_at0 hok0.out i hi))
        rw [hln] at e7 hsrc
        injection e7 with e1 e2 e3
        subst e1 e3
        rw [hN2] at hsrc
        have HSRC := Lib.hid hsrc
        have HBS : Hid (∀ a, sp' = some a → w.heap.size ≤ a.block) := fun a ha => own_baseC ho a.block (by rw [ha]; rfl)
        have HN := Lib.hid hN2
        clear hsrc ho hln hN2 hN hown hsz
        go_wp2_with fail
        go_ret2
        refine ⟨sp', cap', ?_, ?_, hbe.out, HBS.out⟩
        · rw [HT.out, if_pos rfl, ← HN.out]; rfl
        · rw [HT.out, if_pos rfl, if_pos rfl]; exact HSRC.out
  · have ht : ((s.size : Int) != 2 * (n : Int)) = true := by rw [bne_iff_ne]; omega
    have hz : pok s.data.toList n = false := by unfold pok; rw [← Lib.size_eq, decide_eq_false hsz]; rfl
    unfold UnhRes
    rw [hz]
    clear hz hsz
    go_enter Tryz.func57, Tryz.ntmps57
    go_wp2
    go_ret2
    exact ⟨none, 0, rfl, src_nil _, Below.refl _ _, fun a h => by cases h⟩
end Go.Proofs.YtdjknefbaclleaaGreatDoor

namespace Go.Proofs.YtdjknefbaclleaaGreatDoor
open Go.RowKit

theorem pby_length (l : List UInt8) (n : Nat) : (pby l n).length = n := by unfold pby; split <;> simp [hbs_length]
theorem ppby_length (l : List UInt8) : (ppby l).length = 32 := by unfold ppby; split <;> simp [hbs_length]
/-- the row on the way: the first k bytes of a list, the others zero -/
def wayZ (L : List Int) (n k : Nat) : List Int := L.take k ++ List.replicate (n - k) 0
theorem wayZ_zero (L : List Int) (n : Nat) : wayZ L n 0 = List.replicate n 0 := by simp [wayZ]
theorem wayZ_length {L : List Int} {n k : Nat} (hk : k ≤ n) (hl : k ≤ L.length) : (wayZ L n k).length = n := by
  unfold wayZ; rw [List.length_append, List.length_take, List.length_replicate]; omega
theorem wayZ_set {L : List Int} {n k : Nat} (hk : k < n) (hl : k < L.length) : (wayZ L n k).set k (L.getD k 0) = wayZ L n (k + 1) := by
  unfold wayZ
  rw [List.set_append_right _ _ (by rw [List.length_take]; omega), List.length_take, show min k L.length = k by omega, Nat.sub_self, show n - k = (n - (k + 1)) + 1 by omega, List.replicate_succ, List.take_succ_eq_append_getElem hl, List.append_assoc, List.getD_eq_getElem?_getD, List.getElem?_eq_getElem hl]
  rfl
theorem wayZ_full {L : List Int} {n : Nat} (hl : L.length = n) : wayZ L n n = L := by
  unfold wayZ; rw [Nat.sub_self, List.take_of_length_le (by omega)]; simp
theorem grown_setJ {a w : World} {g : Nat} (h : a.grownBy w (some g)) (i : Nat) (u : Value) : a.grownBy (w.setCell ⟨g, i, none⟩ u) (some g) :=
  ⟨h.os, h.tape, h.output, by simpa [World.setCell] using h.size, fun k hk hne => (Below.heap_setCell w ⟨g, i, none⟩ u k (by intro e; exact hne (by rw [e]))).trans (h.block k hk hne)⟩
/-- two new digests of zeros -/
def twoW (w : World) : World := (w.alloc (.cells (Array.replicate 32 (Value.int .u8 0)) 29)).alloc (.cells (Array.replicate 32 (Value.int .u8 0)) 29)
theorem twoZ (w : World) : RowIn (twoW w) (w.heap.size + 1) 29 .u8 (List.replicate 32 0) ∧ RowIn (twoW w) w.heap.size 29 .u8 (List.replicate 32 0) ∧ Below w.heap.size w (twoW w) ∧ (twoW w).heap.size = w.heap.size + 1 + 1 := by
  have h0 : RowIn (w.alloc (.cells (Array.replicate 32 (Value.int .u8 0)) 29)) w.heap.size 29 .u8 (List.replicate 32 0) := row_new w 29 .u8 (List.replicate 32 0)
  have b0 := below_alloc w (.cells (Array.replicate 32 (Value.int .u8 0)) 29)
  have z0 := alloc_size w (.cells (Array.replicate 32 (Value.int .u8 0)) 29)
  unfold twoW
  generalize World.alloc w _ = w0 at *
  have h1 : RowIn (w0.alloc (.cells (Array.replicate 32 (Value.int .u8 0)) 29)) w0.heap.size 29 .u8 (List.replicate 32 0) := row_new w0 29 .u8 (List.replicate 32 0)
  have b1 := below_alloc w0 (.cells (Array.replicate 32 (Value.int .u8 0)) 29)
  have z1 := alloc_size w0 (.cells (Array.replicate 32 (Value.int .u8 0)) 29)
  generalize World.alloc w0 _ = w1 at *
  rw [z0] at h1 z1
  exact ⟨h1, h0.below b1 (by omega), b0.trans (b1.mono (by omega)), z1⟩
set_option maxRecDepth 100000 in
set_option maxHeartbeats 1000000 in
theorem refParse_any (s : ByteArray) (w : World) :
    Calls Tryz.prog 41 #[.string s] w fun e w' => e = .returned (.tuple #[.agg ((ppby s.data.toList).map (Value.int .u8)).toArray, .bool (ppok s.data.toList)]) ∧ Below w.heap.size w w' := by
  have hbz := bzD
  have h7e : s.data.toList.take 7 = (s.extract 0 7).toList := by rw [Lib.toList_data, ext_data]; rfl
  have hpk : ppok s.data.toList = (decide ((s.extract 0 7).toList = [115, 104, 97, 50, 53, 54, 58]) && pok (s.extract 7 s.size).data.toList 32) := by
    unfold ppok; rw [h7e, ext_data, List.take_of_length_le (by rw [← Lib.size_eq]; exact Nat.le_refl _)]; rfl
  have hex : (s.extract 7 s.size).data.toList = s.data.toList.drop 7 := by rw [ext_data, List.take_of_length_le (by rw [← Lib.size_eq]; exact Nat.le_refl _)]
  have hz0 : ppok s.data.toList = false → ppby s.data.toList = List.replicate 32 0 := fun h => by unfold ppby; rw [if_neg (by rw [h]; simp)]
  obtain ⟨t1, t2, t3, t4⟩ := twoZ w
  by_cases h71 : s.size = 71
  · have e2 : (s.size : Int) = 71 := by omega
    by_cases ht : (s.extract 0 7).toList = [115, 104, 97, 50, 53, 54, 58]
    · have ht1 : ((s.extract 0 7).toList == [115, 104, 97, 50, 53, 54, 58]) = true := by rw [beq_iff_eq]; exact ht
      have ht2 : (!((s.extract 0 7).toList == [115, 104, 97, 50, 53, 54, 58])) = false := by rw [ht1]; rfl
      rw [decide_eq_true ht, Bool.true_and, h71] at hpk
      rw [h71] at hex
      have hpb : ppby s.data.toList = pby (s.extract 7 71).data.toList 32 := by unfold ppby pby; rw [hpk, hex]
      have HPK := Lib.hid hpk; have HPB := Lib.hid hpb
      obtain ⟨S, hS⟩ : ∃ S, s.extract 7 71 = S := ⟨_, rfl⟩
      rw [hS] at HPK HPB
      clear ht hz0 hpk hpb h7e hex
      go_enter Tryz.func41, Tryz.ntmps41
      go_wp2_with fail
      generalize hw1 : World.alloc (World.alloc w _) _ = w1
      have hw2 : twoW w = w1 := hw1
      rw [hw2] at t1 t2 t3 t4
      clear hw1 hw2 hS
      refine (refUnhex_any S 32 w1 (by omega)).mono ?_
      rintro e w2 ⟨sp, cap, rfl, hsrc, hb2, hab⟩
      have HR2 := Lib.hid (t1.below hb2 (by omega))
      have HR0 := Lib.hid (t2.below hb2 (by omega))
      have HBE : Hid (Below w.heap.size w w2) := t3.trans (hb2.mono (by omega))
      have hz2 : w.heap.size + 1 + 1 ≤ w2.heap.size := by have := hb2.size; omega
      have hpl : pby S.data.toList 32 = wayZ (if pok S.data.toList 32 = true then hbs S.data.toList 32 else []) 32 (if pok S.data.toList 32 = true then 32 else 0) := by
        unfold pby
        split
        · rw [wayZ_full (hbs_length _ _)]
        · rfl
      have hN : (if pok S.data.toList 32 = true then 32 else 0) ≤ 32 := by split <;> omega
      obtain ⟨N, hNe⟩ : ∃ N, (if pok S.data.toList 32 = true then 32 else 0) = N := ⟨_, rfl⟩
      obtain ⟨L, hLe⟩ : ∃ L, (if pok S.data.toList 32 = true then hbs S.data.toList 32 else []) = L := ⟨_, rfl⟩
      rw [hNe] at hpl hN hsrc ⊢
      rw [hLe] at hpl hsrc
      obtain ⟨ok, hok⟩ : ∃ b, pok S.data.toList 32 = b := ⟨_, rfl⟩
      rw [hok]
      have HPL := Lib.hid hpl; have HOK := Lib.hid hok; have HSRC := Lib.hid hsrc; have HLL := Lib.hid hsrc.len
      have HAB : Hid (∀ a, sp = some a → w.heap.size + 1 + 1 ≤ a.block) := fun a ha => by have := hab a ha; omega
      have HR20 : Hid (RowIn w2 (w.heap.size + 1) 29 .u8 (wayZ L 32 0)) := by show RowIn _ _ _ _ _; rw [wayZ_zero]; exact HR2.out
      clear hNe hLe hok hpl hsrc hab hb2 t1 t2 t3 t4 HR2
      go_wp2_with fail
      go_loopw [7] (fun i wr => ∃ k : Nat, k ≤ N ∧ i = .int .i64 k ∧ Hid (RowIn wr (w.heap.size + 1) 29 .u8 (wayZ L 32 k)) ∧ Hid (w2.grownBy wr (some (w.heap.size + 1)))) (fun i _ => N - (intOf i).toNat)
      case atStart => exact ⟨0, Nat.zero_le _, rfl, HR20.out, World.grownBy.refl _ _⟩
      case round =>
        clear HR20
        obtain ⟨k, hk, rfl, hrow, hgr⟩ := hrel
        have hgz := hgr.out.size
        by_cases hlt : k < N
        · have hd : decide ((k : Int) < (N : Int)) = true := by simp; omega
          obtain ⟨bb, off, rfl, hbb, hcap, hc⟩ := HSRC.out.cells (by omega)
          have hne := HAB.out _ rfl
          have c1 := (World.cell?_of_block (a := ⟨bb, off + k, none⟩) (hgr.out.block bb hbb (by intro e; have e' := Option.some.inj e; have hne' : w.heap.size + 1 + 1 ≤ bb := hne; omega))).trans (hc k hlt)
          have hwl : (wayZ L 32 k).length = 32 := wayZ_length (by omega) (by rw [HLL.out]; omega)
          have c2 := hrow.out.get k (by rw [hwl]; omega)
          have f2 := hrow.out.free k
          obtain ⟨y, hy⟩ : ∃ y, (wayZ L 32 k).getD k 0 = y := ⟨_, rfl⟩
          rw [hy] at c2
          have hst := wayZ_set (L := L) (n := 32) (k := k) (by omega) (by rw [HLL.out]; exact hlt)
          have p1 : (0 : Int) ≤ (k : Int) := by omega
          have p2 : (k : Int) < (N : Int) := by omega
          have p3 : (k : Int) < 32 := by omega
          obtain ⟨x, hx⟩ : ∃ x, L.getD k 0 = x := ⟨_, rfl⟩
          rw [hx] at c1 hst
          have HE : Hid (RowIn (wr.setCell ⟨w.heap.size + 1, k, none⟩ (.int .u8 x)) (w.heap.size + 1) 29 .u8 (wayZ L 32 (k + 1)) ∧ w2.grownBy (wr.setCell ⟨w.heap.size + 1, k, none⟩ (.int .u8 x)) (some (w.heap.size + 1))) := by
            have h1 := hrow.out.put k x
            rw [hst] at h1
            exact ⟨h1, grown_setJ hgr.out _ _⟩
          clear hne hc hwl hy hst hx hrow hgr hbz
          go_wp2_with fail
          go_roundw
          case rel => exact ⟨k + 1, by omega, by go_num, HE.out.1, HE.out.2⟩
          case measure => simp [intOf]; omega
        · obtain rfl : N = k := by omega
          have hd : decide ((N : Int) < (N : Int)) = false := by simp
          have hwl : (wayZ L 32 N).length = 32 := wayZ_length (by omega) (by rw [HLL.out]; exact Nat.le_refl _)
          have hpl := HPL.out
          have HR9 := Lib.hid (HR0.out.grown hgr.out (by omega))
          have HB9 : Hid (Below w.heap.size w wr) := HBE.out.trans ((below_of_grown hgr.out (by omega)).mono (by omega))
          obtain ⟨M, hM⟩ : ∃ M, wayZ L 32 N = M := ⟨_, rfl⟩
          rw [hM] at hrow hwl hpl
          have HPL2 := Lib.hid hpl
          have HI := Lib.hid (row_info32 M hwl); have HO := Lib.hid (oneCell_map .u8 M); have HS := Lib.hid (row_sizes (List.replicate 32 0) M (by rw [hwl]; simp))
          clear hM hwl hpl HPL hgr hbz
          go_wp2_with (first
            | (refine wpList_load_row rfl 29 _ rfl (w.heap.size + 1) rfl 29 _ (0, 0) _ hrow.out Tryz.underlying29 rfl HI.out ?_)
            | (refine wpList_store_row rfl 29 _ _ rfl w.heap.size _ rfl rfl 29 _ HR9.out HI.out HS.out HO.out ?_))
          exact bodyPost_ret (results_row_tmp (P := Tryz.prog) rfl _ _ w.heap.size 29 _ (0, 0) _ rfl (HR9.out.setRow _) Tryz.underlying29 rfl HI.out) rfl ⟨by rw [HPB.out, HPL2.out, HPK.out, HOK.out]; rfl, below_setRow HB9.out (Nat.le_refl _) _⟩
    · have ht1 : ((s.extract 0 7).toList == [115, 104, 97, 50, 53, 54, 58]) = false := by rw [beq_eq_false_iff_ne]; exact ht
      have ht2 : (!((s.extract 0 7).toList == [115, 104, 97, 50, 53, 54, 58])) = true := by rw [ht1]; rfl
      rw [decide_eq_false ht, Bool.false_and] at hpk
      have HP := Lib.hid hpk
      have HPB := Lib.hid (hz0 hpk)
      have HR1 := Lib.hid t1; have HR0 := Lib.hid t2; have HBE1 := Lib.hid t3
      have HI0 : Hid ((Tryz.prog.info? 29).map (·.size) = some (zrow 32).size) := row_info32 (List.replicate 32 0) (by simp)
      have HO0 : Hid ((zrow 32).all (·.oneCell') = true) := oneCell_map .u8 _
      have HS0 : Hid (((List.replicate 32 (0 : Int)).map (Value.int .u8)).toArray.size = (zrow 32).size) := rfl
      clear ht hpk h7e hex t1 t2 t3 t4 hz0
      go_enter Tryz.func41, Tryz.ntmps41
      go_wp2_with (first
        | (refine wpList_load_row rfl 29 _ rfl (w.heap.size + 1) rfl 29 _ (0, 0) _ HR1.out Tryz.underlying29 rfl HI0.out ?_)
        | (refine wpList_store_row rfl 29 _ _ rfl w.heap.size (zrow 32) rfl rfl 29 _ HR0.out HI0.out HS0.out HO0.out ?_))
      exact bodyPost_ret (results_row_tmp (P := Tryz.prog) rfl _ _ w.heap.size 29 (zrow 32) (0, 0) _ rfl (setRow_heap _ _ _ _ _ _ HR0.out) Tryz.underlying29 rfl HI0.out) rfl ⟨by rw [HPB.out, HP.out]; rfl, below_setRow HBE1.out (Nat.le_refl _) _⟩
  · have e1 : ((s.size : Int) != 71) = true := by rw [bne_iff_ne]; omega
    have e2 : ¬ (s.size : Int) = 71 := by omega
    have hpk2 : ppok s.data.toList = false := by
      cases h : ppok s.data.toList
      · rfl
      · exfalso; apply h71
        rw [hpk, Bool.and_eq_true, decide_eq_true_eq] at h
        have h2 := h.2
        have h3 := congrArg List.length h.1
        rw [← h7e, List.length_take] at h3
        unfold pok at h2
        rw [hex] at h2
        simp only [Bool.and_eq_true, decide_eq_true_eq, List.length_drop] at h2
        have h4 : min 7 s.data.toList.length = 7 := h3
        rw [Lib.size_eq]; omega
    have HP := Lib.hid hpk2
    have HPB := Lib.hid (hz0 hpk2)
    have HR1 := Lib.hid t1; have HR0 := Lib.hid t2; have HBE1 := Lib.hid t3
    have HI0 : Hid ((Tryz.prog.info? 29).map (·.size) = some (zrow 32).size) := row_info32 (List.replicate 32 0) (by simp)
    have HO0 : Hid ((zrow 32).all (·.oneCell') = true) := oneCell_map .u8 _
    have HS0 : Hid (((List.replicate 32 (0 : Int)).map (Value.int .u8)).toArray.size = (zrow 32).size) := rfl
    clear hpk hpk2 h7e hex t1 t2 t3 t4 hz0 h71
    go_enter Tryz.func41, Tryz.ntmps41
    go_wp2_with (first
      | (refine wpList_load_row rfl 29 _ rfl (w.heap.size + 1) rfl 29 _ (0, 0) _ HR1.out Tryz.underlying29 rfl HI0.out ?_)
      | (refine wpList_store_row rfl 29 _ _ rfl w.heap.size (zrow 32) rfl rfl 29 _ HR0.out HI0.out HS0.out HO0.out ?_))
    exact bodyPost_ret (results_row_tmp (P := Tryz.prog) rfl _ _ w.heap.size 29 (zrow 32) (0, 0) _ rfl (setRow_heap _ _ _ _ _ _ HR0.out) Tryz.underlying29 rfl HI0.out) rfl ⟨by rw [HPB.out, HP.out]; rfl, below_setRow HBE1.out (Nat.le_refl _) _⟩
end Go.Proofs.YtdjknefbaclleaaGreatDoor
