/-
  Versions: the walk of three: three valid versions, whatever comes in.
-/
import Derived.Test.YtceeilojcifgeaaDoorVorG
namespace Go.Proofs.YtceeilojcifgeaaDoor
open Go.RowKit

theorem info3s : (Tryd.prog.info? 27).map (·.size) = some 3 := by kernel_rfl
set_option maxRecDepth 100000 in
set_option maxHeartbeats 4000000 in
theorem three_any (s : Int) (hs : s = 1 ∨ s = 2 ∨ s = 3) (sp : Option Addr) (n cap : Nat) (l : List ByteArray) (st : Option Addr) (m ct : Nat) (lt : List Int) (w : World) (hl : StrA w sp n cap l) (ht : IntA w st m ct lt) :
    Calls Tryd.prog 11 #[.int .i64 s, .slice sp n cap, .slice st m ct] w fun e w' => ∃ a b c : ByteArray, e = .returned (.agg #[.string a, .string b, .string c]) ∧ (valB s a.data.toList = true ∧ valB s b.data.toList = true ∧ valB s c.data.toList = true) ∧ Below w.heap.size w w' := by
  have HL := Lib.hid hl; have HT := Lib.hid ht
  have hn := hl.short.1
  clear hl ht
  go_enter Tryd.func11, Tryd.ntmps11
  go_wp2_with fail
  generalize hw0 : World.alloc (World.alloc (World.alloc w _) _) _ = w0
  have h0 : w0.heap[w.heap.size]? = some (.cells #[.string ⟨#[]⟩, .string ⟨#[]⟩, .string ⟨#[]⟩] 27 (0, 0)) := by
    rw [← hw0, Below.heap_alloc _ _ _ (by simp; omega), Below.heap_alloc _ _ _ (by simp)]; exact heap_alloc_new _ _
  have h1 : w0.heap[w.heap.size + 1]? = some (.cells #[.slice st m ct, .int .i64 (0 : Nat)] 35 (0, 0)) := by
    rw [← hw0, Below.heap_alloc _ _ _ (by simp)]; have := heap_alloc_new (w.alloc (.cells #[.string ⟨#[]⟩, .string ⟨#[]⟩, .string ⟨#[]⟩] 27)) (.cells #[.slice st m ct, .int .i64 0] 35); rw [World.size_alloc] at this; exact this
  have h2 : w0.heap[w.heap.size + 1 + 1]? = some (.cells #[.string ⟨#[]⟩, .string ⟨#[]⟩, .string ⟨#[]⟩] 27 (0, 0)) := by
    rw [← hw0]; have := heap_alloc_new ((w.alloc (.cells #[.string ⟨#[]⟩, .string ⟨#[]⟩, .string ⟨#[]⟩] 27)).alloc (.cells #[.slice st m ct, .int .i64 0] 35)) (.cells #[.string ⟨#[]⟩, .string ⟨#[]⟩, .string ⟨#[]⟩] 27); rw [World.size_alloc, World.size_alloc] at this; exact this
  have hb0 : Below w.heap.size w w0 := by rw [← hw0]; exact (((Below.refl _ _).alloc (Nat.le_refl _) _).alloc (by simp) _).alloc (by simp; omega) _
  clear hw0
  generalize htb : w.heap.size + 1 = tb at *
  generalize hb2 : tb + 1 = b2 at *
  have HTB := Lib.hid (And.intro htb hb2)
  have HTP0 := Lib.hid (show Tp w0 tb 5 from ⟨st, m, ct, lt, 0, ⟨h1, HT.out.len, fun hm => by
    obtain ⟨b, off, e1, e2, e3, e4⟩ := HT.out.cells hm
    exact ⟨b, off, e1, by omega, e3, fun i v hi => (hb0.cell (p := ⟨b, off + i, none⟩) e2).trans (e4 i v hi)⟩, HT.out.wide, HT.out.short⟩, by omega⟩)
  have HB0 := Lib.hid hb0; have HZ0 := Lib.hid h0; have HR0 := Lib.hid h2
  clear h0 h1 h2 hb0 hb2 htb
  go_loopw [9] (fun i wr => ∃ (k : Nat) (x y z : ByteArray), i = .int .i64 k ∧ k ≤ 3 ∧ Hid (Tp wr tb (5 - k) ∧ wr.heap[b2]? = some (.cells #[.string x, .string y, .string z] 27 (0, 0)) ∧ wr.heap[w.heap.size]? = some (.cells #[.string ⟨#[]⟩, .string ⟨#[]⟩, .string ⟨#[]⟩] 27 (0, 0)) ∧ ((0 < k → valB s x.data.toList = true) ∧ (1 < k → valB s y.data.toList = true) ∧ (2 < k → valB s z.data.toList = true)) ∧ Below w.heap.size w wr)) (fun i _ => 3 - (intOf i).toNat)
  case atStart => exact ⟨0, _, _, _, rfl, by omega, HTP0.out, HR0.out, HZ0.out, ⟨fun h => absurd h (by omega), fun h => absurd h (by omega), fun h => absurd h (by omega)⟩, HB0.out⟩
  case round =>
    clear HB0 HZ0 HR0 HTP0
    obtain ⟨k, x, y, z, rfl, hk, H⟩ := hrel
    have HT0 := Lib.hid H.out.1; have HR := Lib.hid H.out.2.1; have HZ := Lib.hid H.out.2.2.1; have HO := Lib.hid H.out.2.2.2.1; have HB := Lib.hid H.out.2.2.2.2
    clear H
    rcases (by omega : k = 0 ∨ k = 1 ∨ k = 2 ∨ k = 3) with rfl | rfl | rfl | rfl
    · go_wp2_with fail
      refine (tversion_any tb 4 s wr hs HT0.out).mono ?_
      rintro e w1 ⟨v, rfl, hv, ht1, hu1⟩
      have HN := Lib.hid hv; have HT1 := Lib.hid ht1
      have HB1 := Lib.hid (HB.out.trans (hu1.below (B := w.heap.size) (by have := HTB.out; omega) HT0.out.lt))
      have HR2 := Lib.hid ((hu1.block b2 (Array.getElem?_eq_some_iff.1 HR.out).1 (by have := HTB.out; omega)).trans HR.out)
      have HR0 := Lib.hid ((hu1.block w.heap.size (Array.getElem?_eq_some_iff.1 HZ.out).1 (by have := HTB.out; omega)).trans HZ.out)
      clear hv ht1 hu1
      have hc1 : w1.cell? ⟨b2, 0, none⟩ = some (.string x) := by rw [cell_of_row w1 b2 0 _ _ _ HR2.out]; rfl
      have hf1 : w1.frozen? ⟨b2, 0, none⟩ = false := frozen_of_row w1 b2 0 _ _ HR2.out
      by_cases hlt : 0 < n
      · have hd : decide ((0 : Int) < (n : Int)) = true := by simp; omega
        have p1 : (0 : Int) < (n : Int) := by omega
        have hn0 : ¬ n = 0 := by omega
        have hn1 : ¬ n ≤ 0 := by omega
        have hn2 : ¬ (n : Int) ≤ 0 := by omega
        have hd4 : decide (0 < n) = true := by simp; omega
        obtain ⟨b, off, rfl, hbl, hcap, hc⟩ := HL.out.cells (by omega)
        obtain ⟨u, hu⟩ : ∃ u, l[0]? = some u := ⟨l[0]'(by have := HL.out.len; omega), List.getElem?_eq_getElem _⟩
        have hbne : ¬ b = b2 := by have := HTB.out; omega
        have hbne' : ¬ b2 = b := by have := HTB.out; omega
        have hcell1 : w1.cell? ⟨b, off + 0, none⟩ = some (.string u) := (HB1.out.cell (p := ⟨b, off + 0, none⟩) hbl).trans (hc 0 u hu)
        have hcell1' : w1.cell? ⟨b, off, none⟩ = some (.string u) := hcell1
        go_wp2_with fail
        generalize hw2 : World.setCell w1 _ _ = w2
        have HR2' := Lib.hid (show w2.heap[b2]? = some (.cells #[.string v, .string y, .string z] 27 (0, 0)) by rw [← hw2, heap_setCell_same w1 b2 0 _ _ _ HR2.out]; rfl)
        have HR0' := Lib.hid (show w2.heap[w.heap.size]? = some (.cells #[.string ⟨#[]⟩, .string ⟨#[]⟩, .string ⟨#[]⟩] 27 (0, 0)) by rw [← hw2, heap_setCell_other w1 ⟨b2, 0, none⟩ w.heap.size _ (by show w.heap.size ≠ b2; have := HTB.out; omega)]; exact HR0.out)
        have HB2 := Lib.hid (show Below w.heap.size w w2 by rw [← hw2]; exact HB1.out.setCell (by show w.heap.size ≤ b2; have := HTB.out; omega) _)
        have HT2 := Lib.hid (show Tp w2 tb 4 by rw [← hw2]; exact HT1.out.ofB ((Below.refl b2 w1).setCell (Nat.le_refl _) _) (by have := HTB.out; omega))
        have hcell : w2.cell? ⟨b, off + 0, none⟩ = some (.string u) := (HB2.out.cell (p := ⟨b, off + 0, none⟩) hbl).trans (hc 0 u hu)
        clear hcell1 hcell1'
        clear hw2 hc1 hf1
        have HBN := Lib.hid hbl
        obtain ⟨q, rfl⟩ := bs_eq u
        have HVV := Lib.hid (fun w => rValidL_any s q w)
        have HVE := Lib.hid (valB_eq s q)
        have HQ := Lib.hid (bs_data q)
        clear hc hu
        generalize bs q = u at *
        generalize hr : rValB s q = r at *
        cases r
        · refine (HVV.out _).mono ?_
          rintro e w3 ⟨rfl, b3⟩
          have HB3 := Lib.hid (HB2.out.trans (b3.mono HB2.out.size))
          have HT3 := Lib.hid (HT2.out.of b3)
          have HR3 := Lib.hid ((b3.block b2 (Array.getElem?_eq_some_iff.1 HR2'.out).1).trans HR2'.out)
          have HZ3 := Lib.hid ((b3.block w.heap.size (Array.getElem?_eq_some_iff.1 HR0'.out).1).trans HR0'.out)
          clear b3
          go_wp2_with fail
          go_roundw
          case rel => exact ⟨1, v, y, z, by go_num, by omega, HT3.out, HR3.out, HZ3.out, ⟨fun _ => HN.out, fun h => absurd h (by omega), fun h => absurd h (by omega)⟩, HB3.out⟩
          case measure => simp [intOf]
        · refine (HVV.out _).mono ?_
          rintro e w3 ⟨rfl, b3⟩
          have HB3 := Lib.hid (HB2.out.trans (b3.mono HB2.out.size))
          have HT3 := Lib.hid (HT2.out.of b3)
          have HR3 := Lib.hid ((b3.block b2 (Array.getElem?_eq_some_iff.1 HR2'.out).1).trans HR2'.out)
          have HZ3 := Lib.hid ((b3.block w.heap.size (Array.getElem?_eq_some_iff.1 HR0'.out).1).trans HR0'.out)
          have hcell3 : w3.cell? ⟨b, off + 0, none⟩ = some (.string u) := (b3.cell (p := ⟨b, off + 0, none⟩) (Nat.lt_of_lt_of_le HBN.out HB2.out.size)).trans hcell
          have hcell3' : w3.cell? ⟨b, off, none⟩ = some (.string u) := hcell3
          have hc3 : w3.cell? ⟨b2, 0, none⟩ = some (.string v) := by rw [cell_of_row w3 b2 0 _ _ _ HR3.out]; rfl
          have hf3 : w3.frozen? ⟨b2, 0, none⟩ = false := frozen_of_row w3 b2 0 _ _ HR3.out
          clear b3
          have HNO := HN
          have HN := Lib.hid (show valB s u.data.toList = true by rw [HQ.out]; exact HVE.out)
          clear HNO
          go_wp2_with fail
          generalize hw4 : World.setCell w3 _ _ = w4
          have HR4 := Lib.hid (show w4.heap[b2]? = some (.cells #[.string u, .string y, .string z] 27 (0, 0)) by rw [← hw4, heap_setCell_same w3 b2 0 _ _ _ HR3.out]; rfl)
          have HZ4 := Lib.hid (show w4.heap[w.heap.size]? = some (.cells #[.string ⟨#[]⟩, .string ⟨#[]⟩, .string ⟨#[]⟩] 27 (0, 0)) by rw [← hw4, heap_setCell_other w3 ⟨b2, 0, none⟩ w.heap.size _ (by show w.heap.size ≠ b2; have := HTB.out; omega)]; exact HZ3.out)
          have HB4 := Lib.hid (show Below w.heap.size w w4 by rw [← hw4]; exact HB3.out.setCell (by show w.heap.size ≤ b2; have := HTB.out; omega) _)
          have HT4 := Lib.hid (show Tp w4 tb 4 by rw [← hw4]; exact HT3.out.ofB ((Below.refl b2 w3).setCell (Nat.le_refl _) _) (by have := HTB.out; omega))
          clear hw4 hc3 hf3
          go_roundw
          case rel => exact ⟨1, u, y, z, by go_num, by omega, HT4.out, HR4.out, HZ4.out, ⟨fun _ => HN.out, fun h => absurd h (by omega), fun h => absurd h (by omega)⟩, HB4.out⟩
          case measure => simp [intOf]
      · have hd : decide ((0 : Int) < (n : Int)) = false := by simp; omega
        have hn0 : n = 0 ∨ n < 0 := by omega
        have hd4 : decide (0 < n) = false := by simp; omega
        go_wp2_with fail
        generalize hw2 : World.setCell w1 _ _ = w2
        have HR2' := Lib.hid (show w2.heap[b2]? = some (.cells #[.string v, .string y, .string z] 27 (0, 0)) by rw [← hw2, heap_setCell_same w1 b2 0 _ _ _ HR2.out]; rfl)
        have HR0' := Lib.hid (show w2.heap[w.heap.size]? = some (.cells #[.string ⟨#[]⟩, .string ⟨#[]⟩, .string ⟨#[]⟩] 27 (0, 0)) by rw [← hw2, heap_setCell_other w1 ⟨b2, 0, none⟩ w.heap.size _ (by show w.heap.size ≠ b2; have := HTB.out; omega)]; exact HR0.out)
        have HB2 := Lib.hid (show Below w.heap.size w w2 by rw [← hw2]; exact HB1.out.setCell (by show w.heap.size ≤ b2; have := HTB.out; omega) _)
        have HT2 := Lib.hid (show Tp w2 tb 4 by rw [← hw2]; exact HT1.out.ofB ((Below.refl b2 w1).setCell (Nat.le_refl _) _) (by have := HTB.out; omega))
        clear hw2 hc1 hf1
        go_roundw
        case rel => exact ⟨1, v, y, z, by go_num, by omega, HT2.out, HR2'.out, HR0'.out, ⟨fun _ => HN.out, fun h => absurd h (by omega), fun h => absurd h (by omega)⟩, HB2.out⟩
        case measure => simp [intOf]
    · go_wp2_with fail
      refine (tversion_any tb 3 s wr hs HT0.out).mono ?_
      rintro e w1 ⟨v, rfl, hv, ht1, hu1⟩
      have HN := Lib.hid hv; have HT1 := Lib.hid ht1
      have HB1 := Lib.hid (HB.out.trans (hu1.below (B := w.heap.size) (by have := HTB.out; omega) HT0.out.lt))
      have HR2 := Lib.hid ((hu1.block b2 (Array.getElem?_eq_some_iff.1 HR.out).1 (by have := HTB.out; omega)).trans HR.out)
      have HR0 := Lib.hid ((hu1.block w.heap.size (Array.getElem?_eq_some_iff.1 HZ.out).1 (by have := HTB.out; omega)).trans HZ.out)
      clear hv ht1 hu1
      have hc1 : w1.cell? ⟨b2, 1, none⟩ = some (.string y) := by rw [cell_of_row w1 b2 1 _ _ _ HR2.out]; rfl
      have hf1 : w1.frozen? ⟨b2, 1, none⟩ = false := frozen_of_row w1 b2 1 _ _ HR2.out
      by_cases hlt : 1 < n
      · have hd : decide ((1 : Int) < (n : Int)) = true := by simp; omega
        have p1 : (1 : Int) < (n : Int) := by omega
        obtain ⟨b, off, rfl, hbl, hcap, hc⟩ := HL.out.cells (by omega)
        obtain ⟨u, hu⟩ : ∃ u, l[1]? = some u := ⟨l[1]'(by have := HL.out.len; omega), List.getElem?_eq_getElem _⟩
        have hbne : ¬ b = b2 := by have := HTB.out; omega
        have hbne' : ¬ b2 = b := by have := HTB.out; omega
        have hcell1 : w1.cell? ⟨b, off + 1, none⟩ = some (.string u) := (HB1.out.cell (p := ⟨b, off + 1, none⟩) hbl).trans (hc 1 u hu)
        go_wp2_with fail
        generalize hw2 : World.setCell w1 _ _ = w2
        have HR2' := Lib.hid (show w2.heap[b2]? = some (.cells #[.string x, .string v, .string z] 27 (0, 0)) by rw [← hw2, heap_setCell_same w1 b2 1 _ _ _ HR2.out]; rfl)
        have HR0' := Lib.hid (show w2.heap[w.heap.size]? = some (.cells #[.string ⟨#[]⟩, .string ⟨#[]⟩, .string ⟨#[]⟩] 27 (0, 0)) by rw [← hw2, heap_setCell_other w1 ⟨b2, 1, none⟩ w.heap.size _ (by show w.heap.size ≠ b2; have := HTB.out; omega)]; exact HR0.out)
        have HB2 := Lib.hid (show Below w.heap.size w w2 by rw [← hw2]; exact HB1.out.setCell (by show w.heap.size ≤ b2; have := HTB.out; omega) _)
        have HT2 := Lib.hid (show Tp w2 tb 3 by rw [← hw2]; exact HT1.out.ofB ((Below.refl b2 w1).setCell (Nat.le_refl _) _) (by have := HTB.out; omega))
        have hcell : w2.cell? ⟨b, off + 1, none⟩ = some (.string u) := (HB2.out.cell (p := ⟨b, off + 1, none⟩) hbl).trans (hc 1 u hu)
        clear hcell1
        clear hw2 hc1 hf1
        have HBN := Lib.hid hbl
        obtain ⟨q, rfl⟩ := bs_eq u
        have HVV := Lib.hid (fun w => rValidL_any s q w)
        have HVE := Lib.hid (valB_eq s q)
        have HQ := Lib.hid (bs_data q)
        clear hc hu
        generalize bs q = u at *
        generalize hr : rValB s q = r at *
        cases r
        · refine (HVV.out _).mono ?_
          rintro e w3 ⟨rfl, b3⟩
          have HB3 := Lib.hid (HB2.out.trans (b3.mono HB2.out.size))
          have HT3 := Lib.hid (HT2.out.of b3)
          have HR3 := Lib.hid ((b3.block b2 (Array.getElem?_eq_some_iff.1 HR2'.out).1).trans HR2'.out)
          have HZ3 := Lib.hid ((b3.block w.heap.size (Array.getElem?_eq_some_iff.1 HR0'.out).1).trans HR0'.out)
          clear b3
          go_wp2_with fail
          go_roundw
          case rel => exact ⟨2, x, v, z, by go_num, by omega, HT3.out, HR3.out, HZ3.out, ⟨fun _ => HO.out.1 (by omega), fun _ => HN.out, fun h => absurd h (by omega)⟩, HB3.out⟩
          case measure => simp [intOf]
        · refine (HVV.out _).mono ?_
          rintro e w3 ⟨rfl, b3⟩
          have HB3 := Lib.hid (HB2.out.trans (b3.mono HB2.out.size))
          have HT3 := Lib.hid (HT2.out.of b3)
          have HR3 := Lib.hid ((b3.block b2 (Array.getElem?_eq_some_iff.1 HR2'.out).1).trans HR2'.out)
          have HZ3 := Lib.hid ((b3.block w.heap.size (Array.getElem?_eq_some_iff.1 HR0'.out).1).trans HR0'.out)
          have hcell3 : w3.cell? ⟨b, off + 1, none⟩ = some (.string u) := (b3.cell (p := ⟨b, off + 1, none⟩) (Nat.lt_of_lt_of_le HBN.out HB2.out.size)).trans hcell
          skip
          have hc3 : w3.cell? ⟨b2, 1, none⟩ = some (.string v) := by rw [cell_of_row w3 b2 1 _ _ _ HR3.out]; rfl
          have hf3 : w3.frozen? ⟨b2, 1, none⟩ = false := frozen_of_row w3 b2 1 _ _ HR3.out
          clear b3
          have HNO := HN
          have HN := Lib.hid (show valB s u.data.toList = true by rw [HQ.out]; exact HVE.out)
          clear HNO
          go_wp2_with fail
          generalize hw4 : World.setCell w3 _ _ = w4
          have HR4 := Lib.hid (show w4.heap[b2]? = some (.cells #[.string x, .string u, .string z] 27 (0, 0)) by rw [← hw4, heap_setCell_same w3 b2 1 _ _ _ HR3.out]; rfl)
          have HZ4 := Lib.hid (show w4.heap[w.heap.size]? = some (.cells #[.string ⟨#[]⟩, .string ⟨#[]⟩, .string ⟨#[]⟩] 27 (0, 0)) by rw [← hw4, heap_setCell_other w3 ⟨b2, 1, none⟩ w.heap.size _ (by show w.heap.size ≠ b2; have := HTB.out; omega)]; exact HZ3.out)
          have HB4 := Lib.hid (show Below w.heap.size w w4 by rw [← hw4]; exact HB3.out.setCell (by show w.heap.size ≤ b2; have := HTB.out; omega) _)
          have HT4 := Lib.hid (show Tp w4 tb 3 by rw [← hw4]; exact HT3.out.ofB ((Below.refl b2 w3).setCell (Nat.le_refl _) _) (by have := HTB.out; omega))
          clear hw4 hc3 hf3
          go_roundw
          case rel => exact ⟨2, x, u, z, by go_num, by omega, HT4.out, HR4.out, HZ4.out, ⟨fun _ => HO.out.1 (by omega), fun _ => HN.out, fun h => absurd h (by omega)⟩, HB4.out⟩
          case measure => simp [intOf]
      · have hd : decide ((1 : Int) < (n : Int)) = false := by simp; omega
        go_wp2_with fail
        generalize hw2 : World.setCell w1 _ _ = w2
        have HR2' := Lib.hid (show w2.heap[b2]? = some (.cells #[.string x, .string v, .string z] 27 (0, 0)) by rw [← hw2, heap_setCell_same w1 b2 1 _ _ _ HR2.out]; rfl)
        have HR0' := Lib.hid (show w2.heap[w.heap.size]? = some (.cells #[.string ⟨#[]⟩, .string ⟨#[]⟩, .string ⟨#[]⟩] 27 (0, 0)) by rw [← hw2, heap_setCell_other w1 ⟨b2, 1, none⟩ w.heap.size _ (by show w.heap.size ≠ b2; have := HTB.out; omega)]; exact HR0.out)
        have HB2 := Lib.hid (show Below w.heap.size w w2 by rw [← hw2]; exact HB1.out.setCell (by show w.heap.size ≤ b2; have := HTB.out; omega) _)
        have HT2 := Lib.hid (show Tp w2 tb 3 by rw [← hw2]; exact HT1.out.ofB ((Below.refl b2 w1).setCell (Nat.le_refl _) _) (by have := HTB.out; omega))
        clear hw2 hc1 hf1
        go_roundw
        case rel => exact ⟨2, x, v, z, by go_num, by omega, HT2.out, HR2'.out, HR0'.out, ⟨fun _ => HO.out.1 (by omega), fun _ => HN.out, fun h => absurd h (by omega)⟩, HB2.out⟩
        case measure => simp [intOf]
    · go_wp2_with fail
      refine (tversion_any tb 2 s wr hs HT0.out).mono ?_
      rintro e w1 ⟨v, rfl, hv, ht1, hu1⟩
      have HN := Lib.hid hv; have HT1 := Lib.hid ht1
      have HB1 := Lib.hid (HB.out.trans (hu1.below (B := w.heap.size) (by have := HTB.out; omega) HT0.out.lt))
      have HR2 := Lib.hid ((hu1.block b2 (Array.getElem?_eq_some_iff.1 HR.out).1 (by have := HTB.out; omega)).trans HR.out)
      have HR0 := Lib.hid ((hu1.block w.heap.size (Array.getElem?_eq_some_iff.1 HZ.out).1 (by have := HTB.out; omega)).trans HZ.out)
      clear hv ht1 hu1
      have hc1 : w1.cell? ⟨b2, 2, none⟩ = some (.string z) := by rw [cell_of_row w1 b2 2 _ _ _ HR2.out]; rfl
      have hf1 : w1.frozen? ⟨b2, 2, none⟩ = false := frozen_of_row w1 b2 2 _ _ HR2.out
      by_cases hlt : 2 < n
      · have hd : decide ((2 : Int) < (n : Int)) = true := by simp; omega
        have p1 : (2 : Int) < (n : Int) := by omega
        obtain ⟨b, off, rfl, hbl, hcap, hc⟩ := HL.out.cells (by omega)
        obtain ⟨u, hu⟩ : ∃ u, l[2]? = some u := ⟨l[2]'(by have := HL.out.len; omega), List.getElem?_eq_getElem _⟩
        have hbne : ¬ b = b2 := by have := HTB.out; omega
        have hbne' : ¬ b2 = b := by have := HTB.out; omega
        have hcell1 : w1.cell? ⟨b, off + 2, none⟩ = some (.string u) := (HB1.out.cell (p := ⟨b, off + 2, none⟩) hbl).trans (hc 2 u hu)
        go_wp2_with fail
        generalize hw2 : World.setCell w1 _ _ = w2
        have HR2' := Lib.hid (show w2.heap[b2]? = some (.cells #[.string x, .string y, .string v] 27 (0, 0)) by rw [← hw2, heap_setCell_same w1 b2 2 _ _ _ HR2.out]; rfl)
        have HR0' := Lib.hid (show w2.heap[w.heap.size]? = some (.cells #[.string ⟨#[]⟩, .string ⟨#[]⟩, .string ⟨#[]⟩] 27 (0, 0)) by rw [← hw2, heap_setCell_other w1 ⟨b2, 2, none⟩ w.heap.size _ (by show w.heap.size ≠ b2; have := HTB.out; omega)]; exact HR0.out)
        have HB2 := Lib.hid (show Below w.heap.size w w2 by rw [← hw2]; exact HB1.out.setCell (by show w.heap.size ≤ b2; have := HTB.out; omega) _)
        have HT2 := Lib.hid (show Tp w2 tb 2 by rw [← hw2]; exact HT1.out.ofB ((Below.refl b2 w1).setCell (Nat.le_refl _) _) (by have := HTB.out; omega))
        have hcell : w2.cell? ⟨b, off + 2, none⟩ = some (.string u) := (HB2.out.cell (p := ⟨b, off + 2, none⟩) hbl).trans (hc 2 u hu)
        clear hcell1
        clear hw2 hc1 hf1
        have HBN := Lib.hid hbl
        obtain ⟨q, rfl⟩ := bs_eq u
        have HVV := Lib.hid (fun w => rValidL_any s q w)
        have HVE := Lib.hid (valB_eq s q)
        have HQ := Lib.hid (bs_data q)
        clear hc hu
        generalize bs q = u at *
        generalize hr : rValB s q = r at *
        cases r
        · refine (HVV.out _).mono ?_
          rintro e w3 ⟨rfl, b3⟩
          have HB3 := Lib.hid (HB2.out.trans (b3.mono HB2.out.size))
          have HT3 := Lib.hid (HT2.out.of b3)
          have HR3 := Lib.hid ((b3.block b2 (Array.getElem?_eq_some_iff.1 HR2'.out).1).trans HR2'.out)
          have HZ3 := Lib.hid ((b3.block w.heap.size (Array.getElem?_eq_some_iff.1 HR0'.out).1).trans HR0'.out)
          clear b3
          go_wp2_with fail
          go_roundw
          case rel => exact ⟨3, x, y, v, by go_num, by omega, HT3.out, HR3.out, HZ3.out, ⟨fun _ => HO.out.1 (by omega), fun _ => HO.out.2.1 (by omega), fun _ => HN.out⟩, HB3.out⟩
          case measure => simp [intOf]
        · refine (HVV.out _).mono ?_
          rintro e w3 ⟨rfl, b3⟩
          have HB3 := Lib.hid (HB2.out.trans (b3.mono HB2.out.size))
          have HT3 := Lib.hid (HT2.out.of b3)
          have HR3 := Lib.hid ((b3.block b2 (Array.getElem?_eq_some_iff.1 HR2'.out).1).trans HR2'.out)
          have HZ3 := Lib.hid ((b3.block w.heap.size (Array.getElem?_eq_some_iff.1 HR0'.out).1).trans HR0'.out)
          have hcell3 : w3.cell? ⟨b, off + 2, none⟩ = some (.string u) := (b3.cell (p := ⟨b, off + 2, none⟩) (Nat.lt_of_lt_of_le HBN.out HB2.out.size)).trans hcell
          skip
          have hc3 : w3.cell? ⟨b2, 2, none⟩ = some (.string v) := by rw [cell_of_row w3 b2 2 _ _ _ HR3.out]; rfl
          have hf3 : w3.frozen? ⟨b2, 2, none⟩ = false := frozen_of_row w3 b2 2 _ _ HR3.out
          clear b3
          have HNO := HN
          have HN := Lib.hid (show valB s u.data.toList = true by rw [HQ.out]; exact HVE.out)
          clear HNO
          go_wp2_with fail
          generalize hw4 : World.setCell w3 _ _ = w4
          have HR4 := Lib.hid (show w4.heap[b2]? = some (.cells #[.string x, .string y, .string u] 27 (0, 0)) by rw [← hw4, heap_setCell_same w3 b2 2 _ _ _ HR3.out]; rfl)
          have HZ4 := Lib.hid (show w4.heap[w.heap.size]? = some (.cells #[.string ⟨#[]⟩, .string ⟨#[]⟩, .string ⟨#[]⟩] 27 (0, 0)) by rw [← hw4, heap_setCell_other w3 ⟨b2, 2, none⟩ w.heap.size _ (by show w.heap.size ≠ b2; have := HTB.out; omega)]; exact HZ3.out)
          have HB4 := Lib.hid (show Below w.heap.size w w4 by rw [← hw4]; exact HB3.out.setCell (by show w.heap.size ≤ b2; have := HTB.out; omega) _)
          have HT4 := Lib.hid (show Tp w4 tb 2 by rw [← hw4]; exact HT3.out.ofB ((Below.refl b2 w3).setCell (Nat.le_refl _) _) (by have := HTB.out; omega))
          clear hw4 hc3 hf3
          go_roundw
          case rel => exact ⟨3, x, y, u, by go_num, by omega, HT4.out, HR4.out, HZ4.out, ⟨fun _ => HO.out.1 (by omega), fun _ => HO.out.2.1 (by omega), fun _ => HN.out⟩, HB4.out⟩
          case measure => simp [intOf]
      · have hd : decide ((2 : Int) < (n : Int)) = false := by simp; omega
        go_wp2_with fail
        generalize hw2 : World.setCell w1 _ _ = w2
        have HR2' := Lib.hid (show w2.heap[b2]? = some (.cells #[.string x, .string y, .string v] 27 (0, 0)) by rw [← hw2, heap_setCell_same w1 b2 2 _ _ _ HR2.out]; rfl)
        have HR0' := Lib.hid (show w2.heap[w.heap.size]? = some (.cells #[.string ⟨#[]⟩, .string ⟨#[]⟩, .string ⟨#[]⟩] 27 (0, 0)) by rw [← hw2, heap_setCell_other w1 ⟨b2, 2, none⟩ w.heap.size _ (by show w.heap.size ≠ b2; have := HTB.out; omega)]; exact HR0.out)
        have HB2 := Lib.hid (show Below w.heap.size w w2 by rw [← hw2]; exact HB1.out.setCell (by show w.heap.size ≤ b2; have := HTB.out; omega) _)
        have HT2 := Lib.hid (show Tp w2 tb 2 by rw [← hw2]; exact HT1.out.ofB ((Below.refl b2 w1).setCell (Nat.le_refl _) _) (by have := HTB.out; omega))
        clear hw2 hc1 hf1
        go_roundw
        case rel => exact ⟨3, x, y, v, by go_num, by omega, HT2.out, HR2'.out, HR0'.out, ⟨fun _ => HO.out.1 (by omega), fun _ => HO.out.2.1 (by omega), fun _ => HN.out⟩, HB2.out⟩
        case measure => simp [intOf]
    · have hx : ∀ i (hi : i < 3), wr.cell? ⟨b2, i, none⟩ = some ((#[Value.string x, Value.string y, Value.string z] : Array Value)[i]'hi) := fun i hi => by rw [cell_of_row wr b2 i _ _ _ HR.out]; simp [hi]
      have hx0 : wr.cell? ⟨b2, 0, none⟩ = some (.string x) := hx 0 (by omega)
      have hx1 : wr.cell? ⟨b2, 1, none⟩ = some (.string y) := hx 1 (by omega)
      have hx2 : wr.cell? ⟨b2, 2, none⟩ = some (.string z) := hx 2 (by omega)
      have hz0 : wr.cell? ⟨w.heap.size, 0, none⟩ = some (.string ⟨#[]⟩) := by rw [cell_of_row wr w.heap.size 0 _ _ _ HZ.out]; rfl
      have hz1 : wr.cell? ⟨w.heap.size, 1, none⟩ = some (.string ⟨#[]⟩) := by rw [cell_of_row wr w.heap.size 1 _ _ _ HZ.out]; rfl
      have hz2 : wr.cell? ⟨w.heap.size, 2, none⟩ = some (.string ⟨#[]⟩) := by rw [cell_of_row wr w.heap.size 2 _ _ _ HZ.out]; rfl
      have hf0 : wr.frozen? ⟨w.heap.size, 0, none⟩ = false := frozen_of_row wr w.heap.size 0 _ _ HZ.out
      have hf1 : wr.frozen? ⟨w.heap.size, 1, none⟩ = false := frozen_of_row wr w.heap.size 1 _ _ HZ.out
      have hf2 : wr.frozen? ⟨w.heap.size, 2, none⟩ = false := frozen_of_row wr w.heap.size 2 _ _ HZ.out
      clear hx
      go_wp2_with fail
      have e1 := heap_setCell_same wr w.heap.size 0 _ _ (.string x) HZ.out
      have e2 := heap_setCell_same _ w.heap.size 1 _ _ (.string y) e1
      have e3 := heap_setCell_same _ w.heap.size 2 _ _ (.string z) e2
      refine bodyPost_ret (results_row1 (P := Tryd.prog) rfl _ _ w.heap.size 27 _ (0, 0) _ rfl e3 Tryd.underlying27 rfl info3s) rfl ?_
      exact ⟨x, y, z, rfl, ⟨HO.out.1 (by omega), HO.out.2.1 (by omega), HO.out.2.2 (by omega)⟩, ((HB.out.setCell (Nat.le_refl _) _).setCell (Nat.le_refl _) _).setCell (Nat.le_refl _) _⟩
end Go.Proofs.YtceeilojcifgeaaDoor
