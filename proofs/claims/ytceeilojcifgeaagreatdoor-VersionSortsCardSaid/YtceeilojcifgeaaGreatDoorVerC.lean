/-
  Versions: the walks of skip, word, plain, TrimLeft and number (conditions: strings and keys of at most 100000 bytes).
-/
import Derived.Test.YtceeilojcifgeaaGreatDoorVerB
namespace Go.Proofs.YtceeilojcifgeaaGreatDoor
open Go.RowKit

theorem Rd.frozen {B : Nat} {w : World} {b : Nat} {r : ByteArray} {k : BL} (h : Rd B w b r k) : w.frozen? ⟨b, 0, none⟩ = false := by
  obtain ⟨_, sp, cap, h, _⟩ := h; exact frozen_of_row w b 0 _ _ h
theorem bs_cons_drop (c : UInt8) (l : BL) : (bs (c :: l)).extract 1 (bs (c :: l)).size = bs l := bs_drop (c :: l) 1
/-- whether c follows -/
def skB (c : UInt8) (l : BL) : Bool := match l with
  | [] => false
  | x :: _ => (x.toNat : Int) == (c.toNat : Int)
def skL (c : UInt8) (l : BL) : BL := if skB c l = true then l.drop 1 else l
def skW (w : World) (b : Nat) (c : UInt8) (l : BL) : World := if skB c l = true then w.setCell ⟨b, 0, none⟩ (.string (bs (skL c l))) else w
theorem skW_no {w : World} {b : Nat} {c : UInt8} {l : BL} (h : skB c l = false) : skW w b c l = w := by unfold skW; rw [h]; rfl
theorem skW_yes {w : World} {b : Nat} {c : UInt8} {l l' : BL} (h : skB c l = true) (h2 : skL c l = l') : skW w b c l = w.setCell ⟨b, 0, none⟩ (.string (bs l')) := by unfold skW; rw [h, h2]; rfl
set_option maxRecDepth 100000 in
set_option maxHeartbeats 1000000 in
theorem skipX_any (B b : Nat) (c : UInt8) (l k : BL) (w : World) (h : Rd B w b (bs l) k) (hl : l.length ≤ 100000) :
    Calls Tryz.prog 55 #[.pointer (some ⟨b, 0, none⟩), .int .u8 c.toNat] w fun e w' => e = .returned (.bool (skB c l)) ∧ w' = skW w b c l := by
  have h0 := h.rest
  have hf0 := h.frozen
  clear h
  cases l with
  | nil =>
    have e0 : (bs []) = ⟨#[]⟩ := rfl
    rw [e0] at h0
    clear e0
    go_enter Tryz.func55, Tryz.ntmps55
    go_wp2_with fail
    go_ret
    exact ⟨by rfl, (skW_no rfl).symm⟩
  | cons x l =>
    obtain ⟨r, hr, hg, hs, ht, hd⟩ := bs_facts (x :: l)
    have HD := Lib.hid (show r.extract 1 r.size = bs l from hd 1)
    have hne : (r.toList == []) = false := by
      rw [Lib.toList_data]
      have : r.data.toList = x :: l := by rw [← hr, bs_data]
      rw [this]; rfl
    have hne2 : ([] == r.toList) = false := by
      rw [Lib.toList_data]
      have : r.data.toList = x :: l := by rw [← hr, bs_data]
      rw [this]; rfl
    have hsz : 0 < r.size := by rw [hs]; simp
    have q0 : (0 : Int) ≤ (1 : Int) := by omega
    have q1 : (1 : Int) ≤ (r.size : Int) := by omega
    have q2 : (0 : Int) < (r.size : Int) := by omega
    have HG := Lib.hid (show r[0] = x from hg 0 hsz (by simp))
    rw [hr] at h0
    have HSK := Lib.hid (show skB c (x :: l) = ((x.toNat : Int) == (c.toNat : Int)) from rfl)
    obtain ⟨q, hq⟩ : ∃ q, ((x.toNat : Int) == (c.toNat : Int)) = q := ⟨_, rfl⟩
    clear hg hs ht hd hr
    cases q
    · have HK := Lib.hid (show skL c (x :: l) = x :: l by unfold skL; rw [HSK.out, hq]; rfl)
      rw [hq] at HSK
      rw [← HG.out] at hq
      have hq2 : ((r[0].toNat : Int) != (c.toNat : Int)) = true := by rw [bne, hq]; rfl
      go_enter Tryz.func55, Tryz.ntmps55
      go_wp2_with fail
      go_ret
      exact ⟨by rw [HSK.out]; rfl, (skW_no HSK.out).symm⟩
    · have HK := Lib.hid (show skL c (x :: l) = l by unfold skL; rw [HSK.out, hq]; rfl)
      rw [hq] at HSK
      rw [← HG.out] at hq
      have hq2 : ((r[0].toNat : Int) != (c.toNat : Int)) = false := by rw [bne, hq]; rfl
      go_enter Tryz.func55, Tryz.ntmps55
      go_wp2_with fail
      go_ret
      exact ⟨by rw [HSK.out]; rfl, by rw [skW_yes HSK.out HK.out, ← HD.out]⟩
theorem skip_any (B b : Nat) (c : UInt8) (l k : BL) (w : World) (h : Rd B w b (bs l) k) (hl : l.length ≤ 100000) :
    Calls Tryz.prog 55 #[.pointer (some ⟨b, 0, none⟩), .int .u8 c.toNat] w fun e w' => e = .returned (.bool (skB c l)) ∧ Rd B w' b (bs (skL c l)) k ∧ Below B w w' := by
  refine (skipX_any B b c l k w h hl).mono ?_
  rintro e w' ⟨rfl, rfl⟩
  cases hq : skB c l
  · rw [skW_no hq]
    refine ⟨rfl, ?_, Below.refl _ _⟩
    unfold skL; rw [hq]; exact h
  · rw [skW_yes hq rfl]
    exact ⟨rfl, h.set _, (Below.refl _ _).setCell h.1 _⟩
set_option maxRecDepth 100000 in
set_option maxHeartbeats 1000000 in
theorem word_any (B b : Nat) (m : BL) (r : ByteArray) (k : BL) (w : World) (h : Rd B w b r k) (hk : k.length ≤ 100000) (hm : m.length ≤ 100000) :
    Calls Tryz.prog 84 #[.pointer (some ⟨b, 1, none⟩), .string (bs m)] w fun e w' => e = .returned (.tuple #[]) ∧ Rd B w' b r (k ++ m) ∧ Below B w w' := by
  obtain ⟨i0, hi0, hz0, hz1, hz2⟩ := info_parts infoU8
  have HI0 := Lib.hid hi0; have HZ0 := Lib.hid hz0; have HZ1 := Lib.hid hz1; have HZ2 := Lib.hid hz2
  clear hi0 hz0 hz1 hz2
  have hlt := h.lt
  obtain ⟨hB, sp, cap, hrow, hown⟩ := h
  have HR := Lib.hid hrow; have HO := Lib.hid hown
  have h1 : w.cell? ⟨b, 1, none⟩ = some (.slice sp k.length cap) := by rw [cell_of_row w b 1 _ _ _ hrow]; rfl
  obtain ⟨n, hn⟩ : ∃ n, k.length = n := ⟨_, rfl⟩
  rw [hn] at h1 hk HO HR
  have HN := Lib.hid hn
  obtain ⟨s, hs⟩ : ∃ s, bs m = s := ⟨_, rfl⟩
  have HSS := Lib.hid hs
  have hsz : s.size ≤ 100000 := by rw [← hs, bs_size]; exact hm
  have HSZ := Lib.hid (show s.size = m.length by rw [← hs, bs_size])
  have HST := Lib.hid (show Lib.strCells s = Lib.byteCells m by rw [← hs]; unfold Lib.strCells Lib.byteCells; rw [bs_data])
  rw [hs]
  clear hrow hown hn hs
  go_enter Tryz.func84, Tryz.ntmps84
  go_wp2_with (at_builtin; refine Lib.wpList_append_own_string w rfl (.tmp 8) (.tmp 9) 50 9 rfl (b + 1) 5 i0 Tryz.underlying50 Tryz.underlying9 HI0.out HZ0.out HZ1.out HZ2.out _ _ _ rfl HO.out s rfl (by unfold maxLen; omega) (by omega) (by omega) ?_; rintro v' w1 hown1 hg1 -
               obtain ⟨sp', cap', rfl⟩ := own_shapeV hown1
               have hrow1 := (hg1.block b (by omega) (by intro e; have := (HO.out.lt b e.symm).1; omega)).trans HR.out
               have hc1 : w1.cell? ⟨b, 1, none⟩ = some (.slice sp n cap) := by rw [cell_of_row w1 b 1 _ _ _ hrow1]; rfl
               have hf1 : w1.frozen? ⟨b, 1, none⟩ = false := frozen_of_row w1 b 1 _ _ hrow1
               have HR1 := Lib.hid hrow1; have HO1 := Lib.hid hown1; have HG1 := Lib.hid hg1; clear hown1 hg1 hrow1)
  go_end0
  have hg := HG1.out
  refine ⟨rfl, ⟨hB, sp', cap', ?_, ?_⟩, ?_⟩
  · rw [heap_setCell_same w1 b 1 _ _ _ HR1.out, List.length_append, HN.out, ← HSZ.out]; rfl
  · have := own_keptV (w' := w1.setCell ⟨b, 1, none⟩ (.slice sp' (n + s.size) cap')) HO1.out (fun k hk _ => heap_setCell_other w1 ⟨b, 1, none⟩ k _ (by show k ≠ b; omega))
    rw [List.length_append, HN.out, ← HSZ.out]
    rw [HST.out] at this
    simpa [Lib.byteCells] using this
  · exact (((Below.refl B w).grown hg (by omega) (fun k hk => by have := (HO.out.lt k hk).1; omega)).setCell (by show B ≤ b; exact hB) _)
/-- a number without superfluous zeros -/
def plainN (l : BL) : Bool := (l == [48]) || (match l with
  | [] => false
  | c :: _ => (c.toNat : Int) != 48)
set_option maxRecDepth 100000 in
set_option maxHeartbeats 1000000 in
theorem plain_any (l : BL) (w : World) (hl : l.length ≤ 100000) :
    Calls Tryz.prog 77 #[.string (bs l)] w fun e w' => e = .returned (.bool (plainN l)) ∧ w = w' := by
  cases l with
  | nil =>
    have e0 : (bs []) = ⟨#[]⟩ := rfl
    rw [e0]
    clear e0
    go_enter Tryz.func77, Tryz.ntmps77
    go_wp2_with fail
    go_ret
    exact ⟨by rfl, rfl⟩
  | cons x l =>
    obtain ⟨r, hr, hg, hs, -, -⟩ := bs_facts (x :: l)
    have hdat : r.data.toList = x :: l := by rw [← hr, bs_data]
    have hne : (r.toList == []) = false := by rw [Lib.toList_data, hdat]; rfl
    have hem : r.toList.isEmpty = false := by rw [Lib.toList_data, hdat]; rfl
    have hsz : 0 < r.size := by rw [hs]; simp
    have q2 : (0 : Int) < (r.size : Int) := by omega
    have HG := Lib.hid (show r[0] = x from hg 0 hsz (by simp))
    have HP := Lib.hid (show plainN (x :: l) = ((r.toList == [48]) || ((r[0].toNat : Int) != 48)) by rw [HG.out, Lib.toList_data, hdat]; rfl)
    rw [hr]
    clear hg hs hr hdat
    obtain ⟨p, hp⟩ : ∃ p, (r.toList == [48]) = p := ⟨_, rfl⟩
    rw [hp] at HP
    cases p
    · obtain ⟨q, hq⟩ : ∃ q, ((r[0].toNat : Int) != 48) = q := ⟨_, rfl⟩
      rw [hq] at HP
      go_enter Tryz.func77, Tryz.ntmps77
      go_wp2_with fail
      go_ret
      exact ⟨by rw [HP.out]; rfl, rfl⟩
    · go_enter Tryz.func77, Tryz.ntmps77
      go_wp2_with fail
      go_ret
      exact ⟨by rw [HP.out]; rfl, rfl⟩
end Go.Proofs.YtceeilojcifgeaaGreatDoor
