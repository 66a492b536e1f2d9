/-
  The walks of tooLarge, of slices.IndexFunc and slices.ContainsFunc at blobs, of ascending and store.Valid at the empty list (conditions: digests of 32 bytes, at most 1000000 blobs).
-/
import Derived.Test.YtdjknefbaclleaaGreatDoorGg
import Derived.Test.YtdjknefbaclleaaGreatDoorGf
import Derived.Deep.RegionHeld3
import Derived.Deep.RegionWith
import Derived.IntWalk
import Derived.Laws.Cover1
namespace Go.Proofs.YtdjknefbaclleaaGreatDoor
open Go.RowKit

def bigB (x : Bl) : Bool := decide (262144 < x.n)
set_option maxRecDepth 100000 in
set_option maxHeartbeats 400000 in
theorem tooLarge_any (x : Bl) (w : World) (hx : OkB x) :
    Calls Tryz.prog 36 #[.agg (blL x).toArray] w fun e w' => e = .returned (.bool (bigB x)) ∧ Below w.heap.size w w' := by
  have hs := (BlB.new w x).s hx
  have HB := Lib.hid ((Below.refl w.heap.size w).alloc (Nat.le_refl _) (.cells (blL x).toArray 50))
  clear hx
  go_enter Tryz.func36, Tryz.ntmps36
  go_wp2_with fail
  go_ret
  exact ⟨ret_boolG (by unfold bigB; rw [decide_eq_decide]; omega), HB.out⟩
/-- what IndexFunc answers -/
def IdxResB (w : World) (a : Bool) (e : Ending) (w' : World) : Prop := ∃ r : Int, e = .returned (.int .i64 r) ∧ decide (r ≥ 0) = a ∧ Below w.heap.size w w'
set_option maxRecDepth 100000 in
set_option maxHeartbeats 400000 in
theorem indexB_any (sp : Option Addr) (n cap : Nat) (l : List Bl) (w : World) (hl : BlsIn w w.heap.size sp n cap l) (hn : n ≤ 1000000) :
    Calls Tryz.prog 53 #[.slice sp n cap, .func (.func 36) #[] #[]] w (IdxResB w (l.any bigB)) := by
  have HL := Lib.hid hl
  clear hl
  go_enter Tryz.func53, Tryz.ntmps53
  go_wp2_with fail
  go_loopw [8] (fun i wr => ∃ k : Nat, k ≤ n ∧ i = .int .i64 k ∧ Hid ((l.take k).any bigB = false) ∧ Hid (Below w.heap.size w wr)) (fun i _ => n - (intOf i).toNat)
  case atStart => exact ⟨0, Nat.zero_le _, rfl, rfl, Below.refl _ _⟩
  case round =>
    obtain ⟨k, hk, rfl, HA, hbe⟩ := hrel
    by_cases hlt : k < n
    · have hd : decide ((k : Int) < (n : Int)) = true := by simp; omega
      obtain ⟨b, off, rfl, hbB, hcap, hr⟩ := HL.out.cells (by omega)
      have hkl : k < l.length := by rw [HL.out.len]; exact hlt
      obtain ⟨x, hx⟩ : ∃ x, l[k]? = some x := ⟨l[k], List.getElem?_eq_getElem hkl⟩
      have hxm : x ∈ l := List.mem_of_getElem? hx
      have HR := Lib.hid (range_belowG (hr k x hx) hbe.out hbB)
      have HI := Lib.hid (info_b (HL.out.ok x hxm))
      have HT : Hid ((l.take (k + 1)).any bigB = ((l.take k).any bigB || bigB x)) := by show _ = _; rw [List.take_add_one, List.any_append, hx]; simp
      have HM : Hid (bigB x = true → l.any bigB = true) := fun h => List.any_eq_true.2 ⟨x, hxm, h⟩
      have p1 : (0 : Int) ≤ (k : Int) := by omega
      have p2 : (k : Int) < (n : Int) := by omega
      have hF := fun w' => tooLarge_any x w' (HL.out.ok x hxm)
      clear hr hx hxm hkl
      obtain ⟨c, hc⟩ : ∃ c, bigB x = c := ⟨_, rfl⟩
      rw [hc] at hF
      have HC := Lib.hid hF; have HQ := Lib.hid hc
      clear hF hc
      cases c
      · go_wp2_with (refine wpList_load_mid rfl 50 _ rfl b (off + k * 33) rfl _ _ HR.out Tryz.underlying50 rfl HI.out ?_)
        refine (HC.out _).mono ?_
        rintro e w1 ⟨rfl, hb1⟩
        have HB1 := Lib.hid (hbe.out.trans (hb1.mono hbe.out.size)); clear hb1
        go_wp2_with fail
        go_roundw
        case rel => exact ⟨k + 1, hlt, by go_num, by show _ = _; rw [HT.out, HA.out, HQ.out]; rfl, HB1.out⟩
        case measure => simp [intOf]; omega
      · go_wp2_with (refine wpList_load_mid rfl 50 _ rfl b (off + k * 33) rfl _ _ HR.out Tryz.underlying50 rfl HI.out ?_)
        refine (HC.out _).mono ?_
        rintro e w1 ⟨rfl, hb1⟩
        have HB1 := Lib.hid (hbe.out.trans (hb1.mono hbe.out.size)); clear hb1
        go_wp2_with fail
        go_ret
        exact ⟨k, rfl, by rw [HM.out HQ.out]; simp, HB1.out⟩
    · obtain rfl : k = n := by omega
      have hd : decide ((k : Int) < (k : Int)) = false := by simp
      have HZ : Hid (l.any bigB = false) := by have := HA.out; rw [List.take_of_length_le (by rw [HL.out.len]; exact Nat.le_refl _)] at this; exact this
      go_wp2_with fail
      go_ret
      exact ⟨-1, rfl, by rw [HZ.out]; rfl, hbe.out⟩
set_option maxHeartbeats 400000 in
theorem containsB_any (sp : Option Addr) (n cap : Nat) (l : List Bl) (w : World) (hl : BlsIn w w.heap.size sp n cap l) (hn : n ≤ 1000000) :
    Calls Tryz.prog 35 #[.slice sp n cap, .func (.func 36) #[] #[]] w fun e w' => e = .returned (.bool (l.any bigB)) ∧ Below w.heap.size w w' := by
  have HL := Lib.hid hl
  clear hl
  go_enter Tryz.func35, Tryz.ntmps35
  go_wp2_with fail
  refine (indexB_any sp n cap l _ HL.out hn).mono ?_
  rintro e w1 ⟨r, rfl, hr, hb⟩
  have HR := Lib.hid hr; have HB := Lib.hid hb; clear hr hb
  go_wp2_with fail
  go_ret
  exact ⟨ret_boolG HR.out, HB.out⟩
set_option maxRecDepth 100000 in
set_option maxHeartbeats 400000 in
theorem ascend0_any (w : World) : Calls Tryz.prog 34 #[.slice none 0 0] w fun e w' => e = .returned (.bool true) ∧ Below w.heap.size w w' := by
  go_enter Tryz.func34, Tryz.ntmps34
  go_wp2_with fail
  go_loopw [3] (fun i wr => i = .int .i64 1 ∧ Hid (Below w.heap.size w wr)) (fun i _ => 0)
  case atStart => exact ⟨rfl, Below.refl _ _⟩
  case round =>
    obtain ⟨rfl, hbe⟩ := hrel
    go_wp2_with fail
    go_ret
    exact ⟨rfl, hbe.out⟩
set_option maxRecDepth 100000 in
set_option maxHeartbeats 400000 in
theorem valid0_any (w : World) : Calls Tryz.prog 15 #[.slice none 0 0] w fun e w' => e = .returned (.bool true) ∧ Below w.heap.size w w' := by
  have HC := Lib.hid (fun w1 => containsB_any none 0 0 [] w1 (BlsIn.nil _ _) (by omega))
  go_enter Tryz.func15, Tryz.ntmps15
  go_wp2_with fail
  refine (ascend0_any _).mono ?_
  rintro e w1 ⟨rfl, hb1⟩
  have HB1 := Lib.hid hb1; clear hb1
  go_wp2_with fail
  refine (HC.out _).mono ?_
  rintro e w2 ⟨rfl, hb2⟩
  have HB2 := Lib.hid hb2; clear hb2
  go_wp2_with fail
  go_ret
  exact ⟨rfl, HB1.out.trans (HB2.out.mono HB1.out.size)⟩
end Go.Proofs.YtdjknefbaclleaaGreatDoor

namespace Go.Proofs.YtdjknefbaclleaaGreatDoor
open Go.RowKit

theorem row_newG (w : World) (cs : Array Value) (t : TypeId) (i : Nat) (v : Value) (h : cs[i]? = some v) : (w.alloc (.cells cs t)).cell? ⟨w.heap.size, i, none⟩ = some v := by
  rw [cell_of_row _ w.heap.size i cs t _ (heap_alloc_new w _)]; exact h
set_option maxRecDepth 100000 in
set_option maxHeartbeats 400000 in
theorem findAt_any (x : Bl) (d : List Int) (g : Nat) (w : World) (hx : OkB x) (hd : D32 d) (hg : w.rangeAt g 0 (d.map (Value.int .u8))) (hgl : g < w.heap.size) :
    Calls Tryz.prog 78 #[.agg (blL x).toArray, .pointer (some ⟨g, 0, none⟩)] w fun e w' => e = .returned (.bool (decide (x.d = d))) ∧ Below w.heap.size w w' := by
  have HIX := Lib.hid (info_d hx); have HID := Lib.hid (info_d hd)
  have HX := Lib.hid (BlB.new w x).d
  have HB := Lib.hid ((Below.refl w.heap.size w).alloc (Nat.le_refl _) (.cells (blL x).toArray 50))
  have HG := Lib.hid (range_belowG hg HB.out hgl)
  have he := eqlD x.d d hx.1 hd.1
  clear hx hd hg
  go_enter Tryz.func78, Tryz.ntmps78
  go_wp2_with (first
    | (refine wpList_load_mid rfl 29 _ rfl w.heap.size 0 rfl _ _ HX.out Tryz.underlying29 rfl HIX.out ?_)
    | (refine wpList_load_mid rfl 29 _ rfl g 0 rfl _ _ HG.out Tryz.underlying29 rfl HID.out ?_))
  go_ret
  exact ⟨rfl, HB.out⟩
/-- where the first blob with a digest stands -/
def IdxAt (w : World) (l : List Bl) (d : List Int) (e : Ending) (w' : World) : Prop :=
  ((e = .returned (.int .i64 (-1)) ∧ ∀ x ∈ l, x.d ≠ d) ∨ ∃ (k : Nat) (x : Bl), e = .returned (.int .i64 k) ∧ l[k]? = some x ∧ x.d = d ∧ ∀ y ∈ l.take k, y.d ≠ d) ∧ Below w.heap.size w w'
set_option maxRecDepth 100000 in
set_option maxHeartbeats 400000 in
theorem indexAt_any (sp : Option Addr) (n cap : Nat) (l : List Bl) (d : List Int) (g : Nat) (w : World) (hl : BlsIn w w.heap.size sp n cap l) (hn : n ≤ 1000000) (hd : D32 d) (hg : w.rangeAt g 0 (d.map (Value.int .u8))) (hgl : g < w.heap.size) :
    Calls Tryz.prog 53 #[.slice sp n cap, .func (.func 78) #[] #[.pointer (some ⟨g, 0, none⟩)]] w (IdxAt w l d) := by
  have HL := Lib.hid hl; have HD := Lib.hid hd; have HG := Lib.hid hg
  clear hl hd hg
  go_enter Tryz.func53, Tryz.ntmps53
  go_wp2_with fail
  go_loopw [8] (fun i wr => ∃ k : Nat, k ≤ n ∧ i = .int .i64 k ∧ Hid (∀ y ∈ l.take k, y.d ≠ d) ∧ Hid (Below w.heap.size w wr)) (fun i _ => n - (intOf i).toNat)
  case atStart => exact ⟨0, Nat.zero_le _, rfl, by show ∀ y ∈ l.take 0, _; simp, Below.refl _ _⟩
  case round =>
    obtain ⟨k, hk, rfl, HA, hbe⟩ := hrel
    by_cases hlt : k < n
    · have hd : decide ((k : Int) < (n : Int)) = true := by simp; omega
      obtain ⟨b, off, rfl, hbB, hcap, hr⟩ := HL.out.cells (by omega)
      have hkl : k < l.length := by rw [HL.out.len]; exact hlt
      obtain ⟨x, hx⟩ : ∃ x, l[k]? = some x := ⟨l[k], List.getElem?_eq_getElem hkl⟩
      have hxm : x ∈ l := List.mem_of_getElem? hx
      have HR := Lib.hid (range_belowG (hr k x hx) hbe.out hbB)
      have HI := Lib.hid (info_b (HL.out.ok x hxm))
      have HX := Lib.hid hx
      have HT : Hid (l.take (k + 1) = l.take k ++ [x]) := by show _ = _; rw [List.take_add_one, hx]; rfl
      have p1 : (0 : Int) ≤ (k : Int) := by omega
      have p2 : (k : Int) < (n : Int) := by omega
      have hbs := hbe.out.size
      have hF := findAt_any x d g wr (HL.out.ok x hxm) HD.out (range_belowG HG.out hbe.out hgl) (by omega)
      clear hr hx hxm hkl
      obtain ⟨c, hc⟩ : ∃ c, decide (x.d = d) = c := ⟨_, rfl⟩
      rw [hc] at hF
      have HC := Lib.hid hF; have HQ := Lib.hid hc
      clear hF hc
      cases c
      · go_wp2_with (refine wpList_load_mid rfl 50 _ rfl b (off + k * 33) rfl _ _ HR.out Tryz.underlying50 rfl HI.out ?_)
        refine HC.out.mono ?_
        rintro e w1 ⟨rfl, hb1⟩
        have HB1 := Lib.hid (hbe.out.trans (hb1.mono hbe.out.size)); clear hb1
        go_wp2_with fail
        go_roundw
        case rel =>
          refine ⟨k + 1, hlt, by go_num, ?_, HB1.out⟩
          show ∀ y ∈ l.take (k + 1), y.d ≠ d
          rw [HT.out]
          intro y hy
          rcases List.mem_append.1 hy with hy | hy
          · exact HA.out y hy
          · rw [List.mem_singleton.1 hy]; exact of_decide_eq_false HQ.out
        case measure => simp [intOf]; omega
      · go_wp2_with (refine wpList_load_mid rfl 50 _ rfl b (off + k * 33) rfl _ _ HR.out Tryz.underlying50 rfl HI.out ?_)
        refine HC.out.mono ?_
        rintro e w1 ⟨rfl, hb1⟩
        have HB1 := Lib.hid (hbe.out.trans (hb1.mono hbe.out.size)); clear hb1
        go_wp2_with fail
        go_ret
        exact ⟨.inr ⟨k, x, rfl, HX.out, of_decide_eq_true HQ.out, HA.out⟩, HB1.out⟩
    · obtain rfl : k = n := by omega
      have hd : decide ((k : Int) < (k : Int)) = false := by simp
      have HZ : Hid (∀ y ∈ l, y.d ≠ d) := by have := HA.out; rw [List.take_of_length_le (by rw [HL.out.len]; exact Nat.le_refl _)] at this; exact this
      go_wp2_with fail
      go_ret
      exact ⟨.inl ⟨rfl, HZ.out⟩, hbe.out⟩
set_option maxRecDepth 100000 in
set_option maxHeartbeats 400000 in
theorem find_any (sp : Option Addr) (n cap : Nat) (l : List Bl) (d : List Int) (w : World) (hl : BlsIn w w.heap.size sp n cap l) (hn : n ≤ 1000000) (hd : D32 d) :
    Calls Tryz.prog 49 #[.slice sp n cap, .agg (dv d)] w fun e w' =>
      ((e = .returned (.tuple #[.slice none 0 0, .bool false]) ∧ ∀ x ∈ l, x.d ≠ d) ∨ ∃ (k : Nat) (x : Bl), e = .returned (.tuple #[.slice x.sp x.n x.cap, .bool true]) ∧ l[k]? = some x ∧ x.d = d ∧ ∀ y ∈ l.take k, y.d ≠ d) ∧ Below w.heap.size w w' := by
  have HB := Lib.hid ((Below.refl w.heap.size w).alloc (Nat.le_refl _) (.cells (dv d) 29))
  have hs : (w.alloc (.cells (dv d) 29)).heap.size = w.heap.size + 1 := by simp
  have hr : (w.alloc (.cells (dv d) 29)).rangeAt w.heap.size 0 (d.map (Value.int .u8)) := range_row (pre := []) (post := []) (heap_alloc_new w _) (by simp) rfl
  have HI := Lib.hid (indexAt_any sp n cap l d w.heap.size (w.alloc (.cells (dv d) 29)) ((hl.below HB.out (Nat.le_refl _)).below (Below.refl (w.alloc (.cells (dv d) 29)).heap.size _) (by omega)) hn hd hr (by omega))
  have HL := Lib.hid hl; have HS := Lib.hid hs
  clear hl hs hr hd
  go_enter Tryz.func49, Tryz.ntmps49
  go_wp2_with fail
  refine HI.out.mono ?_
  rintro e w1 ⟨hcase, hb1⟩
  have HB1 := Lib.hid (HB.out.trans (hb1.mono HB.out.size)); clear hb1
  rcases hcase with ⟨rfl, hno⟩ | ⟨k, x, rfl, hx, hxd, hbef⟩
  · have HNO := Lib.hid hno; clear hno
    have hd : decide ((-1 : Int) < 0) = true := rfl
    go_wp2_with fail
    go_ret2
    exact ⟨.inl ⟨rfl, HNO.out⟩, HB1.out⟩
  · have hk := (List.getElem?_eq_some_iff.1 hx).1
    have hkn : k < n := by have := HL.out.len; omega
    obtain ⟨b, off, rfl, hbB, hcap, hr⟩ := HL.out.cells (by omega)
    have hd : decide ((k : Int) < 0) = false := by simp
    have p1 : (0 : Int) ≤ (k : Int) := by omega
    have p2 : (k : Int) < (n : Int) := by omega
    have hc := rngB_s (range_belowG (hr k x hx) HB1.out hbB) (HL.out.ok x (List.mem_of_getElem? hx))
    have HX := Lib.hid hx; have HXD := Lib.hid hxd; have HBF := Lib.hid hbef
    clear hr hx hxd hbef hk
    go_wp2_with fail
    go_ret2
    exact ⟨.inr ⟨k, x, rfl, HX.out, HXD.out, HBF.out⟩, HB1.out⟩
end Go.Proofs.YtdjknefbaclleaaGreatDoor

namespace Go.Proofs.YtdjknefbaclleaaGreatDoor
open Go.RowKit

set_option maxRecDepth 100000 in
set_option maxHeartbeats 400000 in
theorem duplicate_any (sp : Option Addr) (n cap : Nat) (b : List Int) (w : World) (hs : Src w w.heap.size sp n cap b) (hn : n ≤ 1000000000000) :
    Calls Tryz.prog 38 #[.slice sp n cap] w fun e w' => ∃ g, e = .returned (.slice (some ⟨g, 0, none⟩) n n) ∧ w'.ownsRow w.heap.size 5 1 (.slice (some ⟨g, 0, none⟩) n n) n (b.map (Value.int .u8)) ∧ Below w.heap.size w w' := by
  obtain ⟨i0, hi0, hz0, hz1, hz2⟩ := info_parts Tryz.info5a
  have HS := Lib.hid hs; clear hs
  go_enter Tryz.func38, Tryz.ntmps38
  go_wp2_with (first
    | (refine wpList_make_full w rfl (.tmp 5) (.tmp 5) 42 rfl w.heap.size 5 i0 (.int .u8 0) 1 Tryz.underlying42 hi0 hz0 hz1 .i64 .i64 (n : Int) (n : Int) n rfl rfl rfl rfl (by rw [hz2]; omega) (by unfold maxLen; omega) (Nat.le_refl _) ?_
       intro w1 hown1 hgr1
       have hb1 : Below w.heap.size w w1 := (Below.refl _ _).grown hgr1 (Nat.le_refl _) (by intro k hk; cases hk)
       obtain ⟨cur, hg, hcs⟩ : ∃ cur : List Value, w1.heap[w.heap.size]? = some (.cells cur.toArray 5 (0, 0)) ∧ cur.length = n := by
         obtain ⟨_, ⟨h1, _⟩ | ⟨g', cap', cur, h1, _, hg, hle, _, hsz, htk⟩⟩ := hown1
         · cases h1
         · injection h1 with h1 h2 h3
           injection h1 with h1; injection h1 with h1
           subst h1; subst h3
           exact ⟨cur.toList, by simpa using hg, by simpa using hsz⟩
       have HG := Lib.hid hg; have HB1 := Lib.hid hb1; have HSR := Lib.hid (HS.out.below hb1 (Nat.le_refl _))
       clear hown1 hgr1 hg hb1)
    | (refine wpList_copy_splice rfl (.tmp 7) (.tmp 8) 42 42 rfl 5 Tryz.underlying42 (by rw [hi0]; exact congrArg some hz1) _ _ n n n cap rfl rfl w.heap.size 0 cur 5 HG.out (b.map (Value.int .u8)) (by rw [List.length_map, HS.out.len]; exact (Nat.min_self n).symm) (fun hp => ⟨rfl, HSR.out.pos hp⟩) (by rw [List.length_map, HS.out.len, hcs]; omega) (one_map _ _) w.heap.size w HB1.out (Nat.le_refl _) ?_; intro w2 hg2 hb2; have HG2 := hg2; have HB2 := Lib.hid hb2; clear hg2 hb2))
  go_ret
  have hsp : splice cur 0 (b.map (Value.int .u8)) = b.map (Value.int .u8) := by
    unfold splice
    rw [List.take_zero, List.nil_append, List.drop_eq_nil_of_le (by rw [List.length_map, HS.out.len, hcs]; omega), List.append_nil]
  have hg3 := HG2.out
  rw [hsp] at hg3
  refine ⟨w.heap.size, rfl, ⟨by rw [List.length_map, HS.out.len, Nat.mul_one], .inr ⟨w.heap.size, n, _, rfl, Nat.le_refl _, hg3, Nat.le_refl _, by unfold maxLen; omega, ?_, ?_⟩⟩, HB2.out⟩
  · simp [HS.out.len]
  · simp only [Nat.mul_one]
    exact List.take_of_length_le (by rw [List.length_map, HS.out.len]; exact Nat.le_refl _)
end Go.Proofs.YtdjknefbaclleaaGreatDoor
