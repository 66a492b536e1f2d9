/-
  Keys of many one-time keys: the walk of tabulate at strings, and of Words (conditions: the lists of the signature read as halves; the leaf is an int; the table of powers of ten reads as it is laid).
-/
import Derived.Test.YtbfgkbcpkldofaaDoorG2
import Derived.Test.YtbfgkbcpkldofaaDoorGx
import Derived.Test.YtbfgkbcpkldofaaDoorNumS
import Derived.Shelf.Abstract
import Derived.WalkKit
import Derived.BigQuiet
import Derived.WalkSmall
import Derived.BigRegion
namespace Go.Proofs.YtbfgkbcpkldofaaDoor
open Go.RowKit Go.Proofs.YtbfgkbcpkldofaaDoor.One

/-- the first k of n strings lie in block g -/
structure TabS (w : World) (g n k : Nat) (E : Nat → ByteArray) : Prop where
  typ : ∃ cur, w.heap[g]? = some (.cells cur 9 (0, 0)) ∧ cur.size = n ∧ ∀ i, i < k → cur[i]? = some (.string (E i))
theorem TabS.below {w w' : World} {g n k B : Nat} {E : Nat → ByteArray} (h : TabS w g n k E) (hb : Below B w w') (hg : g < B) : TabS w' g n k E := by
  obtain ⟨cur, h1, h2, h3⟩ := h.typ
  exact ⟨cur, (hb.block g hg).trans h1, h2, h3⟩
theorem TabS.at_ {w : World} {g n k : Nat} {E : Nat → ByteArray} (h : TabS w g n k E) (hk : k < n) : ∃ v, w.cell? ⟨g, k, none⟩ = some v ∧ w.frozen? ⟨g, k, none⟩ = false := by
  obtain ⟨cur, h1, h2, _⟩ := h.typ
  exact ⟨cur[k]'(by omega), by rw [cell_of_row w g k _ _ _ h1, Array.getElem?_eq_getElem], frozen_of_row _ _ _ _ _ h1⟩
theorem TabS.put {w : World} {g n k : Nat} {E : Nat → ByteArray} (h : TabS w g n k E) (hk : k < n) : TabS (w.setCell ⟨g, k, none⟩ (.string (E k))) g n (k + 1) E := by
  obtain ⟨cur, h1, h2, h3⟩ := h.typ
  refine ⟨_, heap_setCell_same _ _ _ _ _ _ h1, by simp [h2], fun i hi => ?_⟩
  by_cases e : i = k
  · subst e
    rw [Array.getElem?_setIfInBounds_self_of_lt (by omega)]
  · rw [Array.getElem?_setIfInBounds_ne (by omega)]; exact h3 i (by omega)
theorem TabS.own {w : World} {base g n : Nat} {xs : List Value} {E : Nat → ByteArray} (h : w.ownsRow base 9 1 (.slice (some ⟨g, 0, none⟩) n n) n xs) : TabS w g n 0 E := by
  obtain ⟨h0, h | ⟨g', c, cur, e, hg, h1, h2, h3, h4, h5⟩⟩ := h
  · have e := h.1; simp at e
  · simp only [Value.slice.injEq, Option.some.injEq, Addr.mk.injEq] at e
    obtain ⟨⟨rfl, _, _⟩, _, rfl⟩ := e
    exact ⟨cur, h1, by omega, fun i hi => absurd hi (by omega)⟩
theorem TabS.ownW {w : World} {base g n : Nat} {E : Nat → ByteArray} (h : TabS w g n n E) (hb : base ≤ g) (hn : n ≤ 1000000) : OwnW w base (.slice (some ⟨g, 0, none⟩) n n) ((List.range n).map E) := by
  obtain ⟨cur, h1, h2, h3⟩ := h.typ
  unfold OwnW
  rw [show ((List.range n).map E).length = n by simp]
  refine ⟨by simp, .inr ⟨g, n, cur, rfl, hb, h1, Nat.le_refl _, by unfold maxLen; omega, by omega, ?_⟩⟩
  rw [List.take_of_length_le (by rw [Array.length_toList]; omega)]
  apply List.ext_getElem?
  intro j
  by_cases hj : j < n
  · rw [Array.getElem?_toList, h3 j hj, List.getElem?_map, List.getElem?_map, List.getElem?_range hj]; rfl
  · rw [List.getElem?_eq_none (by rw [Array.length_toList]; omega), List.getElem?_eq_none (by simp; omega)]
set_option maxRecDepth 100000 in
set_option maxHeartbeats 1000000 in
theorem tabS_any (F : FuncId) (p0 n : Nat) (E : Nat → ByteArray) (w : World) (hn : n ≤ 1000000) (eg : ∀ args w, (callFunc F args).run Tryd.prog w = .ok (.enter F args) w)
    (hC : ∀ k, k < n → ∀ w' : World, Below w.heap.size w w' → Calls Tryd.prog F #[.int .i64 (k : Int), .pointer (some ⟨p0, 0, none⟩)] w' fun e w'' => e = .returned (.string (E k)) ∧ Below w'.heap.size w' w'') :
    Calls Tryd.prog 32 #[.int .i64 n, .func (.func F) #[] #[.pointer (some ⟨p0, 0, none⟩)]] w fun e w' => e = .returned (.slice (some ⟨w.heap.size, 0, none⟩) n n) ∧ OwnW w' w.heap.size (.slice (some ⟨w.heap.size, 0, none⟩) n n) ((List.range n).map E) ∧ Below w.heap.size w w' := by
  have HC := Lib.hid hC; clear hC
  obtain ⟨i0, hi0, hz0, hz1, hz2⟩ := info_parts infoStrW
  have HI0 := Lib.hid hi0; have HZ0 := Lib.hid hz0; have HZ1 := Lib.hid hz1; have HZ2 := Lib.hid hz2
  clear hi0 hz0 hz1 hz2
  go_enter Tryd.func32, Tryd.ntmps32
  go_wp2_with (refine wpList_make_full _ rfl _ _ 43 rfl w.heap.size 9 i0 _ 1 Tryd.underlying43 HI0.out HZ0.out HZ1.out .i64 .i64 _ _ n rfl rfl rfl rfl (by rw [HZ2.out]; omega) (by unfold maxLen; omega) (Nat.le_refl _) ?_; intro w1 hown1 hg1; have HT1 : Hid (TabS w1 w.heap.size n 0 E) := TabS.own hown1; have HB1 : Hid (Below w.heap.size w w1) := (Below.refl _ w).grown hg1 (Nat.le_refl _) (fun k e => by cases e); have hs1 : w.heap.size < w1.heap.size := (hown1.lt _ rfl).2; clear hown1 hg1)
  go_loopw [11] (fun i wr => ∃ k : Nat, k ≤ n ∧ i = .int .i64 k ∧ Hid (TabS wr w.heap.size n k E) ∧ Hid (Below w.heap.size w wr) ∧ w.heap.size < wr.heap.size) (fun i _ => n - (intOf i).toNat)
  case atStart => exact ⟨0, by omega, rfl, HT1.out, HB1.out, hs1⟩
  case round =>
    clear HT1 HB1 hs1
    obtain ⟨k, hk, rfl, HT, HB, hs⟩ := hrel
    by_cases hlt : k < n
    · have hd1 : decide ((k : Int) < (n : Int)) = true := by simp; omega
      have p1 : (0 : Int) ≤ (k : Int) := by omega
      have p2 : (k : Int) < (n : Int) := by omega
      have HCK := Lib.hid (HC.out k hlt wr HB.out)
      go_wp2_with fail
      refine HCK.out.mono ?_
      rintro e w5 ⟨rfl, hb5⟩
      have HB5 := Lib.hid hb5; clear hb5
      have HT5 : Hid (TabS w5 w.heap.size n k E) := HT.out.below HB5.out hs
      have hs5 : w.heap.size < w5.heap.size := by have := HB5.out.size; omega
      obtain ⟨v0, cc, ff⟩ := HT5.out.at_ hlt
      go_wp2_with fail
      clear cc ff
      have HP : Hid (TabS (w5.setCell ⟨w.heap.size, k, none⟩ (.string (E k))) w.heap.size n (k + 1) E) := HT5.out.put hlt
      have HBP : Hid (Below w.heap.size w (w5.setCell ⟨w.heap.size, k, none⟩ (.string (E k)))) := (HB.out.trans (HB5.out.mono (by omega))).setCell (by show w.heap.size ≤ w.heap.size; omega) _
      have hsp : w.heap.size < (w5.setCell ⟨w.heap.size, k, none⟩ (.string (E k))).heap.size := by simp [World.setCell]; omega
      generalize World.setCell w5 _ _ = w7 at *
      go_roundw
      case rel => exact ⟨k + 1, by omega, by go_num, HP, HBP, hsp⟩
      case measure => simp [intOf]; omega
    · obtain rfl : k = n := by omega
      have hd1 : decide ((k : Int) < (k : Int)) = false := by simp
      go_wp2_with fail
      go_ret
      exact ⟨rfl, HT.out.ownW (Nat.le_refl _) hn, HB.out⟩
set_option maxRecDepth 100000 in
set_option maxHeartbeats 1000000 in
theorem wclo_any (k p0 : Nat) (sp : Option Addr) (n cap : Nat) (l : List (List Int)) (w : World) (hc : w.cell? ⟨p0, 0, none⟩ = some (.slice sp n cap)) (hl : HvsIn w w.heap.size sp n cap l) (hk : k < n) :
    Calls Tryd.prog 33 #[.int .i64 (k : Int), .pointer (some ⟨p0, 0, none⟩)] w fun e w' => e = .returned (.string (fmtH (l.getD k []))) ∧ Below w.heap.size w w' := by
  obtain ⟨sb, so, rfl, hsb, hcc, hrr⟩ := hl.cells (by omega)
  have HYR := Lib.hid (hrr k hk)
  have HY16 := Lib.hid (hl.at16 hk)
  clear hrr hl
  have p1 : (0 : Int) ≤ (k : Int) := by omega
  have p2 : (k : Int) < (n : Int) := by omega
  have p3 : (n : Int) ≤ (cap : Int) := by omega
  generalize l.getD k [] = y at *
  have HIY := Lib.hid (info_h2' HY16.out)
  have HCF := Lib.hid (FormatHalf_any y w HY16.out.1 HY16.out.2)
  go_enter Tryd.func33, Tryd.ntmps33
  go_wp2_with (refine wpList_load_mid rfl 23 _ rfl sb (so + k * 16) rfl _ _ HYR.out Tryd.underlying23 rfl HIY.out ?_)
  refine HCF.out.mono ?_
  rintro e w6 ⟨rfl, hb6⟩
  go_wp2_with fail
  go_ret
  exact ⟨rfl, hb6⟩
set_option maxRecDepth 100000 in
/-- append(own, list of strings) -/
theorem wpList_append_sws {w : World} {ops : Array Oper} {rest : List Oper} {o : Oper} {a : Act} {Q : Exit → Act → World → Prop} (hgd : o.guard = none) (s x : Operand)
    (ho : o.op = .call { callee := .builtin .append, args := #[s, x], argTypes := #[43, 43] }) (base : Nat) (v : Value) (l : List ByteArray) (n : Nat) (hn : n = l.length) (hs : a.eval s = v) (hown : OwnW w base v l)
    (ad : Addr) (m cap2 B : Nat) (l2 : List ByteArray) (hx : a.eval x = .slice (some ad) m cap2) (hsrc : StrsIn w B (some ad) m l2) (hlen : n + m ≤ 1000000) (hbase : base ≤ w.heap.size)
    (h : ∀ sp cap w', Hid (OwnW w' base (.slice sp (n + m) cap) (l ++ l2)) → Hid (Below base w w') → wpList Tryd.prog ops Q rest (a.put o.dst (.slice sp (n + m) cap)) w') : wpList Tryd.prog ops Q (o :: rest) a w := by
  subst hn
  obtain ⟨i0, hi0, hz0, hz1, hz2⟩ := info_parts infoStrW
  have hl2 := hsrc.len
  refine wpList_append_own w hgd s x _ ho base _ i0 _ 1 16 Tryd.underlying43 hi0 hz0 hz1 hz2 rfl (by decide) v l.length _ hs hown ad m cap2 (l2.map Value.string) hx (by rw [List.length_map, hl2]; omega) ?_ (fun u hu => by obtain ⟨i, _, rfl⟩ := List.mem_map.1 hu; rfl) (by unfold maxLen; omega) (by omega) hbase ?_
  · intro j u hj
    have hjl : j < l2.length := by have := (List.getElem?_eq_some_iff.1 hj).1; simpa using this
    obtain ⟨b, off, e, _, hr⟩ := hsrc.cells (by omega)
    injection e with e; subst e
    rw [Addr.add_mid, hr j hjl]
    rw [List.getElem?_map, List.getElem?_eq_getElem hjl] at hj
    exact hj
  · intro v' w' h1 h2 _
    obtain ⟨sp, cap, rfl⟩ := own_shapeG h1
    exact h sp cap w' (show OwnW _ _ _ _ by unfold OwnW; rw [List.length_append, List.map_append, hl2]; exact h1) ((Below.refl base w).grown h2 hbase (own_baseG hown))
theorem range_getD (l : List (List Int)) (n : Nat) (h : l.length = n) : (List.range n).map (fun k => fmtH (l.getD k [])) = l.map fmtH := by
  subst h
  apply List.ext_getElem?
  intro j
  by_cases hj : j < l.length
  · rw [List.getElem?_map, List.getElem?_range hj, List.getElem?_map, List.getElem?_eq_getElem hj, Option.map_some, List.getD_eq_getElem?_getD, List.getElem?_eq_getElem hj]; rfl
  · rw [List.getElem?_eq_none (by simp; omega), List.getElem?_eq_none (by simp; omega)]
end Go.Proofs.YtbfgkbcpkldofaaDoor

namespace Go.Proofs.YtbfgkbcpkldofaaDoor
open Go.RowKit Go.Proofs.YtbfgkbcpkldofaaDoor.One

/-- the table of powers of ten reads as it is laid -/
def P10In (w : World) : Prop := Lib.TabIs Tryd.prog w "internal/strconv.uint64pow10" .u64 Lib.pow10Tab
theorem g10 : Tryd.prog.globalNamed "internal/strconv.uint64pow10" = some 0 := by kernel_rfl
theorem P10In.below {w w' : World} {B : Nat} (h : P10In w) (hb : Below B w w') (hlt : 0 < B) : P10In w' := by
  unfold P10In Lib.TabIs World.var? at h ⊢
  rw [g10] at h ⊢
  simp only [Option.bind_some] at h ⊢
  rw [hb.block _ hlt]; exact h
/-- a slice of halves in a box -/
structure HsBox (w : World) (v : Value) (w0 : World) : Prop where
  c : w0.cell? ⟨w.heap.size, 0, none⟩ = some v
  b : Below w.heap.size w w0
  s : w0.heap.size = w.heap.size + 1
theorem HsBox.new (w : World) (v : Value) : HsBox w v (w.alloc (.cells #[v] 35)) := ⟨heap_cellO (L := [v]) (heap_alloc_new w _) rfl, below_alloc _ _, alloc_size _ _⟩
set_option maxRecDepth 100000 in
set_option maxHeartbeats 1000000 in
theorem words_any (l : Int) (sp1 : Option Addr) (n c1 : Nat) (cl : List (List Int)) (sp2 : Option Addr) (m c2 : Nat) (pl : List (List Int)) (w : World) (h0 : -9223372036854775808 ≤ l) (h1 : l ≤ 9223372036854775807) (hc : HvsIn w w.heap.size sp1 n c1 cl) (hp : HvsIn w w.heap.size sp2 m c2 pl) (hn1 : sp1 = none → c1 = 0) (hn2 : sp2 = none → c2 = 0) (hn : n ≤ 1000) (hm : m ≤ 1000)
    (ht : P10In w) (ht0 : 0 < w.heap.size) :
    Calls Tryd.prog 12 #[.agg (siA l (.slice sp1 n c1) (.slice sp2 m c2))] w fun e w' => ∃ sp cap, e = .returned (.slice sp (1 + n + m) cap) ∧ OwnW w' w.heap.size (.slice sp (1 + n + m) cap) (wordsB l cl pl) ∧ Below w.heap.size w w' := by
  have HCL := Lib.hid hc; have HPL := Lib.hid hp; have HN1 := Lib.hid hn1; have HN2 := Lib.hid hn2; have HT10 := Lib.hid ht
  clear hc hp hn1 hn2 ht
  have HT := Lib.hid (SxBox.new w l (.slice sp1 n c1) (.slice sp2 m c2))
  go_enter Tryd.func12, Tryd.ntmps12
  go_upto_region 1 with (fail)
  generalize hw0 : World.alloc w _ = w0
  have HT0 : Hid (SxBox w l (.slice sp1 n c1) (.slice sp2 m c2) w0) := by rw [← hw0]; exact HT.out
  clear hw0 HT
  have hs0 : w.heap.size + 1 ≤ w0.heap.size := Nat.le_of_eq HT0.out.k.symm
  have k3 := si_c HT0.out.s
  have k4 := si_p HT0.out.s
  have HTW : Hid (TwoS (w0.alloc (.cells #[.slice sp1 n c1, .slice sp2 m c2] 35)) w0.heap.size (.slice sp1 n c1) (.slice sp2 m c2)) := ⟨heap_alloc_new w0 _⟩
  have HTB := Lib.hid (below_alloc w0 (.cells #[.slice sp1 n c1, .slice sp2 m c2] 35))
  have HTS := Lib.hid (alloc_size w0 (.cells #[.slice sp1 n c1, .slice sp2 m c2] 35))
  go_wp2_with fail
  clear k3 k4
  generalize hw1 : World.alloc w0 _ = w1
  rw [hw1] at HTW HTB HTS
  clear hw1
  have hs1 : w0.heap.size + 1 ≤ w1.heap.size := Nat.le_of_eq HTS.out.symm
  have HBW1 : Hid (Below w.heap.size w w1) := HT0.out.b.trans (HTB.out.mono (by omega))
  have HS1 : Hid (w1.heap[w.heap.size]? = some (.cells (siA l (.slice sp1 n c1) (.slice sp2 m c2)) 37 (0, 0))) := (HTB.out.block _ (by omega)).trans HT0.out.s
  refine (concatH_any w0.heap.size sp1 n c1 cl sp2 m c2 pl w1 HTW.out (by omega) ((HCL.out.below HBW1.out (Nat.le_refl _)).more (by omega)) ((HPL.out.below HBW1.out (Nat.le_refl _)).more (by omega)) HN1.out HN2.out hn hm).mono ?_
  rintro e w2 ⟨sph, caph, rfl, ho, hb⟩
  have hlen : (cl ++ pl).length = n + m := by rw [List.length_append, HCL.out.len, HPL.out.len]
  have HHV := Lib.hid (ho.hvs hlen)
  have HBW2 : Hid (Below w.heap.size w w2) := HBW1.out.trans (hb.mono (by omega))
  have HS2 : Hid (w2.heap[w.heap.size]? = some (.cells (siA l (.slice sp1 n c1) (.slice sp2 m c2)) 37 (0, 0))) := (hb.block _ (by omega)).trans HS1.out
  have hs2 : w.heap.size + 2 ≤ w2.heap.size := by have := hb.size; omega
  have HLN := Lib.hid hlen
  clear ho hb HTW HTB HTS HS1 HT0 HBW1 hlen
  have HBX := Lib.hid (HsBox.new w2 (.slice sph (n + m) caph))
  have cbx := HBX.out.c
  obtain ⟨N, hN⟩ : ∃ N, n + m = N := ⟨_, rfl⟩
  have HNN := Lib.hid hN
  have hN2 : N ≤ 2000 := by omega
  rw [hN] at HLN HHV HBX cbx ⊢
  clear hN
  go_wp2_with fail
  clear cbx
  generalize hw3 : World.alloc w2 _ = w3
  rw [hw3] at HBX
  clear hw3
  have hs3 : w2.heap.size + 1 ≤ w3.heap.size := Nat.le_of_eq HBX.out.s.symm
  have HC := Lib.hid (tabS_any 33 w2.heap.size N (fun k => fmtH ((cl ++ pl).getD k [])) w3 (by omega) (enters_of Tryd.func33 (by kernel_rfl) rfl)
    (fun k hk w' hb => wclo_any k w2.heap.size sph N caph (cl ++ pl) w' ((hb.cell (p := ⟨w2.heap.size, 0, none⟩) (by show w2.heap.size < _; omega)).trans HBX.out.c)
      (((HHV.out.below HBX.out.b (Nat.le_refl _)).below (hb.mono (by omega : w2.heap.size ≤ w3.heap.size)) (Nat.le_refl _)).more (by have := hb.size; omega)) hk))
  refine HC.out.mono ?_
  rintro e w4 ⟨rfl, ho, hb⟩
  rw [range_getD _ _ HLN.out] at ho
  have HO4 := Lib.hid ho
  have HBW3 : Hid (Below w.heap.size w w3) := HBW2.out.trans (HBX.out.b.mono (by omega))
  have HBW4 : Hid (Below w.heap.size w w4) := HBW3.out.trans (hb.mono (by omega))
  have HS4 : Hid (w4.heap[w.heap.size]? = some (.cells (siA l (.slice sp1 n c1) (.slice sp2 m c2)) 37 (0, 0))) := (hb.block _ (by omega)).trans ((HBX.out.b.block _ (by omega)).trans HS2.out)
  have hs4 := hb.size
  clear ho hb HC HBX HHV HS2 HBW2
  have k2 := si_l HS4.out
  go_wp2_with fail
  clear k2
  refine (Number_any l h0 h1 w4 (HT10.out.below HBW4.out ht0)).mono ?_
  rintro e w5 ⟨rfl, hb⟩
  have HO5 := Lib.hid (HO4.out.below hb)
  have HBW5 : Hid (Below w.heap.size w w5) := HBW4.out.trans (hb.mono (by omega))
  have hs5 := hb.size
  clear hb HO4 HS4 HBW4
  have HSL : Hid (OwnW (w5.alloc (.cells #[.string (numS l)] 9)) w5.heap.size (.slice (some ⟨w5.heap.size, 0, none⟩) 1 1) [numS l]) := World.ownsRow_lit w5 #[.string (numS l)] 1 (Nat.le_refl _) (by unfold maxLen; omega) rfl
  have HSB := Lib.hid (below_alloc w5 (.cells #[.string (numS l)] 9))
  have HL2 : Hid (((cl ++ pl).map fmtH).length = N) := by show _ = _; rw [List.length_map]; exact HLN.out
  go_wp2_with (at_builtin; generalize hw6 : World.alloc w5 _ = w6; have HO6 : Hid (OwnW w6 w.heap.size (.slice (some ⟨w5.heap.size, 0, none⟩) 1 1) [numS l]) := (by rw [← hw6]; exact HSL.out.base (by omega)); have HB6 : Hid (Below w5.heap.size w5 w6) := (by rw [← hw6]; exact HSB.out); clear hw6 HSL HSB; have hs6 := HB6.out.size; have HSR := Lib.hid ((HO5.out.below HB6.out).strs HL2.out); refine wpList_append_sws rfl (.tmp 18) (.tmp 19) rfl w.heap.size _ [numS l] 1 rfl rfl HO6.out ⟨w3.heap.size, 0, none⟩ N N w6.heap.size ((cl ++ pl).map fmtH) rfl HSR.out (by omega) (by omega) ?_; intro sp8 cap8 w8 HO8 HB8)
  have HBW8 : Hid (Below w.heap.size w w8) := HBW5.out.trans ((HB6.out.mono (by omega)).trans HB8.out)
  go_ret
  refine ⟨sp8, cap8, ?_, ?_, HBW8.out⟩
  · rw [Nat.add_assoc, HNN.out]; rfl
  · rw [Nat.add_assoc, HNN.out]
    have e : wordsB l cl pl = [numS l] ++ (cl ++ pl).map fmtH := by unfold wordsB; rw [List.map_append, List.append_assoc]
    rw [e]; exact HO8.out
end Go.Proofs.YtbfgkbcpkldofaaDoor

namespace Go.Proofs.YtbfgkbcpkldofaaDoor
open Go.RowKit Go.Proofs.YtbfgkbcpkldofaaDoor.One

theorem pok_hexW {a : List Int} (h : H16 a) : hpK (fmtH a) = true ∧ hpB (fmtH a) = a := by
  have h0 := h.1
  have h1 : pok (hexB a) 16 = true := by
    unfold pok
    rw [hexB_length, h0]
    have := hok_hexB a h.2
    rw [h0] at this
    rw [this]; rfl
  refine ⟨h1, ?_⟩
  show pby (hexB a) 16 = a
  have h2 := hbs_hexB a h.2
  rw [h0] at h2
  unfold pby; rw [if_pos h1, h2]
theorem map_hpB {l : List (List Int)} (h : ∀ x ∈ l, H16 x) : (l.map fmtH).map hpB = l := by
  rw [List.map_map]
  exact (List.map_congr_left (fun x hx => (pok_hexW (h x hx)).2)).trans (List.map_id _)
/-- what is read of the words of a signature -/
theorem words_read {l : Int} {cl pl : List (List Int)} (h0 : 0 ≤ l) (h1 : l ≤ 65535) (hc : cl.length = 68) (hp : pl.length ≤ 6) (hcl : ∀ x ∈ cl, H16 x) (hpl : ∀ x ∈ pl, H16 x) :
    rdK (wordsB l cl pl) = true ∧ rdA (wordsB l cl pl) = l ∧ rdC (wordsB l cl pl) = cl ∧ rdP (wordsB l cl pl) = pl := by
  have hd : hdB (wordsB l cl pl) = numS l := rfl
  have hn : (numS l).data.toList = Lib.itoa l := rfl
  obtain ⟨k1, k2⟩ := pnk_itoa l
  have hdr : (wordsB l cl pl).drop 1 = cl.map fmtH ++ pl.map fmtH := rfl
  have ht : (cl.map fmtH ++ pl.map fmtH).take 68 = cl.map fmtH := by rw [List.take_append_of_le_length (by rw [List.length_map]; omega), List.take_of_length_le (by rw [List.length_map]; omega)]
  have hdp : (cl.map fmtH ++ pl.map fmtH).drop 68 = pl.map fmtH := by have hc2 : (cl.map fmtH).length = 68 := by { rw [List.length_map]; exact hc }; rw [← hc2, List.drop_left]
  have hk : rdK (wordsB l cl pl) = true := by
    refine rdK_yes ?_ ?_ ?_ ?_
    · unfold wordsB; simp; omega
    · rw [hd, hn, k1]; simp; omega
    · rw [hd, hn, k2 h0 (by omega)]; exact h1
    · rw [hdr, List.all_eq_true]
      intro s hs
      rcases List.mem_append.1 hs with hs | hs
      · obtain ⟨x, hx, rfl⟩ := List.mem_map.1 hs; exact (pok_hexW (hcl x hx)).1
      · obtain ⟨x, hx, rfl⟩ := List.mem_map.1 hs; exact (pok_hexW (hpl x hx)).1
  refine ⟨hk, ?_, ?_, ?_⟩
  · unfold rdA; rw [if_pos hk, hd, hn, k2 h0 (by omega)]
  · unfold rdC; rw [if_pos hk, hdr, ht, map_hpB hcl]
  · unfold rdP; rw [if_pos hk, hdr, hdp, map_hpB hpl]
set_option maxRecDepth 100000 in
set_option maxHeartbeats 1000000 in
theorem sameW_any (sp1 sp2 : Option Addr) (n c1 c2 B : Nat) (l : List ByteArray) (w : World) (h1 : StrsIn w B sp1 n l) (h2 : StrsIn w B sp2 n l) (hn : n ≤ 9223372036854775807) :
    Calls Tryd.prog 11 #[.slice sp1 n c1, .slice sp2 n c2] w fun e w' => e = .returned (.bool true) ∧ ∃ m, w' = w.drewN m := by
  have H1 := Lib.hid h1; have H2 := Lib.hid h2
  clear h1 h2
  go_enter Tryd.func11, Tryd.ntmps11
  go_wp2_with fail
  go_loopw [5] (fun i wr => ∃ k : Nat, k ≤ n ∧ i = .int .i64 k ∧ Hid (∃ m, wr = w.drewN m)) (fun i _ => n - (intOf i).toNat)
  case atStart => exact ⟨0, Nat.zero_le _, rfl, 0, rfl⟩
  case round =>
    obtain ⟨k, hk, rfl, hw⟩ := hrel
    by_cases hlt : k < n
    · have hd : decide ((k : Int) < (n : Int)) = true := by simp; omega
      have p1 : (0 : Int) ≤ (k : Int) := by omega
      have p2 : (k : Int) < (n : Int) := by omega
      obtain ⟨b1, o1, rfl, _, g1⟩ := H1.out.cells (by omega)
      obtain ⟨b2, o2, rfl, _, g2⟩ := H2.out.cells (by omega)
      have hl := H1.out.len
      have x1 : wr.cell? ⟨b1, o1 + k, none⟩ = some (.string (l[k]'(by omega))) := by
        obtain ⟨m, hm⟩ := hw.out
        rw [hm]; exact g1 k (by omega)
      have x2 : wr.cell? ⟨b2, o2 + k, none⟩ = some (.string (l[k]'(by omega))) := by
        obtain ⟨m, hm⟩ := hw.out
        rw [hm]; exact g2 k (by omega)
      generalize l[k]'(by omega) = x at x1 x2
      have HW : Hid (∀ q, ∃ m, wr.drewN q = w.drewN m) := fun q => by
        obtain ⟨m, hm⟩ := hw.out
        exact ⟨m + q, by rw [hm, World.drewN_drewN]⟩
      clear hw g1 g2 hl
      go_wp2_with fail
      go_quiet (fail)
      go_wp2_with fail
      go_roundw
      case rel => exact ⟨k + 1, by omega, by go_num, HW.out _⟩
      case measure => simp [intOf]; omega
    · obtain rfl : n = k := by omega
      have hd : decide ((n : Int) < (n : Int)) = false := by simp
      go_wp2_with fail
      go_ret
      exact ⟨rfl, hw.out⟩
end Go.Proofs.YtbfgkbcpkldofaaDoor
