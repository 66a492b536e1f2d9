/-
  Versions: the walks of known and withKeys (lists of at most 1000 strings).
-/
import Derived.Test.YtceeilojcifgeaaDoorVsoA
import Derived.Test.YtceeilojcifgeaaDoorArgV
namespace Go.Proofs.YtceeilojcifgeaaDoor
open Go.RowKit Go.Sort

theorem isNot_fn (n b : Nat) (w : World) : (binOp .neq 22 (.func (.func n) #[.pointer (some ⟨b, 0, none⟩)] #[]) .nilFunc).run Tryd.prog w = .ok (.bool true) w := by kernel_rfl
theorem isNot_nil (w : World) : (binOp .neq 22 .nilFunc .nilFunc).run Tryd.prog w = .ok (.bool false) w := by kernel_rfl
set_option maxRecDepth 100000 in
set_option maxHeartbeats 1000000 in
theorem known_any (s : Int) (w : World) :
    Calls Tryd.prog 37 #[.int .i64 s] w fun e w' => e = .returned (.bool (schB s)) ∧ Below w.heap.size w w' := by
  have HA := Lib.hid (fun o => (Below.refl w.heap.size w).alloc (Nat.le_refl _) o)
  cases h : schB s
  · have HU := Lib.hid (fun w' => under_no s h w.heap.size w')
    have hnn := isNot_nil (w.alloc (.cells #[.string ⟨#[]⟩, .slice none 0 0] 67))
    clear h
    go_enter Tryd.func37, Tryd.ntmps37
    go_wp2_with fail
    refine (HU.out _).mono ?_
    rintro e w' ⟨rfl, rfl⟩
    go_wp2_with fail
    go_ret
    exact ⟨rfl, HA.out _⟩
  · rcases sch_cases h with rfl | rfl | rfl
    · have HU := Lib.hid (fun w' => under_1 w.heap.size w')
      have hnf := isNot_fn 39 w.heap.size (w.alloc (.cells #[.string ⟨#[]⟩, .slice none 0 0] 67))
      clear h
      go_enter Tryd.func37, Tryd.ntmps37
      go_wp2_with fail
      refine (HU.out _).mono ?_
      rintro e w' ⟨rfl, rfl⟩
      go_wp2_with fail
      go_ret
      exact ⟨rfl, HA.out _⟩
    · have HU := Lib.hid (fun w' => under_2 w.heap.size w')
      have hnf := isNot_fn 40 w.heap.size (w.alloc (.cells #[.string ⟨#[]⟩, .slice none 0 0] 67))
      clear h
      go_enter Tryd.func37, Tryd.ntmps37
      go_wp2_with fail
      refine (HU.out _).mono ?_
      rintro e w' ⟨rfl, rfl⟩
      go_wp2_with fail
      go_ret
      exact ⟨rfl, HA.out _⟩
    · have HU := Lib.hid (fun w' => under_3 w.heap.size w')
      have hnf := isNot_fn 41 w.heap.size (w.alloc (.cells #[.string ⟨#[]⟩, .slice none 0 0] 67))
      clear h
      go_enter Tryd.func37, Tryd.ntmps37
      go_wp2_with fail
      refine (HU.out _).mono ?_
      rintro e w' ⟨rfl, rfl⟩
      go_wp2_with fail
      go_ret
      exact ⟨rfl, HA.out _⟩
/-- strings that are read -/
structure StrR (W : World) (sp : Option Addr) (n : Nat) (l : List ByteArray) : Prop where
  len : l.length = n
  cells : 0 < n → ∃ b off, sp = some ⟨b, off, none⟩ ∧ b < W.heap.size ∧ ∀ i v, l[i]? = some v → W.cell? ⟨b, off + i, none⟩ = some (.string v)
theorem StrA.r {W : World} {sp : Option Addr} {n cap : Nat} {l : List ByteArray} (h : StrA W sp n cap l) : StrR W sp n l := ⟨h.len, fun hn => by
  obtain ⟨b, off, e, hb, _, hc⟩ := h.cells hn; exact ⟨b, off, e, hb, hc⟩⟩
theorem StrR.below {w w' : World} {sp : Option Addr} {n : Nat} {l : List ByteArray} (h : StrR w sp n l) (hb : Below w.heap.size w w') : StrR w' sp n l := ⟨h.len, fun hn => by
  obtain ⟨b, off, e, hlt, hc⟩ := h.cells hn
  exact ⟨b, off, e, Nat.lt_of_lt_of_le hlt hb.size, fun i v hi => (hb.cell (p := ⟨b, off + i, none⟩) hlt).trans (hc i v hi)⟩⟩
/-- a version's key, as a string -/
def keyB (s : Int) (v : ByteArray) : ByteArray := bs (keyR s v.data.toList).1
def validAll (s : Int) (l : List ByteArray) : Bool := l.all (fun v => valB s v.data.toList)
def kvs (s : Int) (l : List ByteArray) : List KV := l.map (fun v => (v, keyB s v))
/-- the first error of a list -/
def errW (s : Int) (l : List ByteArray) : Int := if schB s = true then (if validAll s l = true then 0 else 1) else 14
theorem valB_key {s : Int} {l : BL} : valB s l = true ↔ (keyR s l).2 = 0 := by unfold valB; rw [beq_iff_eq]
def WkP (s : Int) (l : List ByteArray) (w : World) (e : Ending) (w' : World) : Prop :=
  ∃ sp n cap, e = .returned (.tuple #[.slice sp n cap, .int .i64 (errW s l)]) ∧ (errW s l = 0 → n = l.length ∧ OwnK w' w.heap.size (.slice sp n cap) (kvs s l)) ∧ (errW s l ≠ 0 → sp = none ∧ n = 0 ∧ cap = 0) ∧ Below w.heap.size w w'
set_option maxRecDepth 100000 in
set_option maxHeartbeats 2000000 in
theorem withKeys_any (s : Int) (sp : Option Addr) (n cap : Nat) (l : List ByteArray) (w : World) (hl : StrR w sp n l) (hn : n ≤ 1000) :
    Calls Tryd.prog 25 #[.int .i64 s, .slice sp n cap] w (WkP s l w) := by
  have HL := Lib.hid hl
  have HK := Lib.hid (fun w => known_any s w)
  have HKEY := Lib.hid (fun l w => key_any s l w)
  clear hl
  cases hs : schB s
  · rw [hs] at HK
    have HE := Lib.hid (show errW s l = 14 by unfold errW; rw [hs]; rfl)
    clear hs
    go_enter Tryd.func25, Tryd.ntmps25
    go_wp2_with fail
    refine (HK.out _).mono ?_
    rintro e w1 ⟨rfl, b1⟩
    have B1 := Lib.hid b1; clear b1
    go_wp2_with fail
    go_ret2
    exact ⟨none, 0, 0, by rw [HE.out]; rfl, fun h => absurd h (by rw [HE.out]; decide), fun _ => ⟨rfl, rfl, rfl⟩, B1.out⟩
  · rw [hs] at HK
    have HE : Hid (errW s l = if validAll s l = true then 0 else 1) := by show errW s l = _; unfold errW; rw [hs]; rfl
    have HSC := Lib.hid hs
    clear hs
    obtain ⟨i0, hi0, hz0, hz1, hz2⟩ := info_parts infoK3
    have HI0 := Lib.hid hi0; have HZ0 := Lib.hid hz0; have HZ1 := Lib.hid hz1; have HZ2 := Lib.hid hz2
    clear hi0 hz0 hz1 hz2
    go_enter Tryd.func25, Tryd.ntmps25
    go_wp2_with fail
    refine (HK.out _).mono ?_
    rintro e w1 ⟨rfl, b1⟩
    have B1 := Lib.hid b1; clear b1
    go_wp2_with (refine wpList_make_own w1 rfl _ _ 54 rfl w.heap.size 58 i0 _ 2 Tryd.underlying54 HI0.out HZ0.out HZ1.out _ _ _ n rfl rfl rfl (by rw [HZ2.out]; omega) (by unfold maxLen; omega) B1.out.size ?_; intro w2 h1 h2; have HO2 := Lib.hid h1; have HG2 := Lib.hid h2; clear h1 h2)
    have HB2 := Lib.hid (B1.out.grown HG2.out B1.out.size (fun k hk => by cases hk))
    go_loopw [6, 19] (fun v i wr => ∃ (k c : Nat) (g : Option Addr), i = .int .i64 k ∧ v = .slice g k c ∧ k ≤ n ∧ Hid (OwnK wr w.heap.size (.slice g k c) (kvs s (l.take k)) ∧ validAll s (l.take k) = true ∧ Below w.heap.size w wr)) (fun _ i _ => n - (intOf i).toNat)
    case atStart => exact ⟨0, n, some ⟨w1.heap.size, 0, none⟩, rfl, rfl, Nat.zero_le _, (show OwnK _ _ _ _ by exact HO2.out), rfl, HB2.out⟩
    case round =>
      clear HO2 HG2 HB2 B1
      obtain ⟨k, c, g, rfl, rfl, hk, H⟩ := hrel
      have HO := Lib.hid H.out.1; have HV := Lib.hid H.out.2.1; have HB := Lib.hid H.out.2.2
      clear H
      by_cases hlt : k < n
      · have hd : decide ((k : Int) < (n : Int)) = true := by simp; omega
        obtain ⟨b, off, rfl, hbl, hc⟩ := HL.out.cells (by omega)
        obtain ⟨u, hu⟩ : ∃ u, l[k]? = some u := ⟨l[k]'(by have := HL.out.len; omega), List.getElem?_eq_getElem _⟩
        have hcell : wr.cell? ⟨b, off + k, none⟩ = some (.string u) := (HB.out.cell (p := ⟨b, off + k, none⟩) hbl).trans (hc k u hu)
        have HTK := Lib.hid (show l.take (k + 1) = l.take k ++ [u] by rw [List.take_add_one, hu]; rfl)
        have HUM := Lib.hid (List.mem_of_getElem? hu)
        have p0 : (0 : Int) ≤ (k : Int) := by omega
        have p1 : (k : Int) < (n : Int) := by omega
        have HKU := Lib.hid (HKEY.out u.data.toList)
        rw [bs_of] at HKU
        have HKB : Hid (keyB s u = bs (keyR s u.data.toList).1) := rfl
        have hr := keyR_rng s u.data.toList
        have HVU := Lib.hid (@valB_key s u.data.toList)
        have HLK := Lib.hid (show k = (kvs s (l.take k)).length by unfold kvs; rw [List.length_map, List.length_take]; have := HL.out.len; omega)
        clear hc hu
        obtain ⟨m, hm⟩ : ∃ m, (keyR s u.data.toList).2 = m := ⟨_, rfl⟩
        rw [hm] at HKU HVU hr
        have HM := Lib.hid hm
        clear hm
        by_cases hm0 : m = 0
        · subst hm0
          clear hr
          generalize hkb : bs (keyR s u.data.toList).1 = kb at HKU HKB
          have HKE := Lib.hid hkb
          clear hkb
          go_wp2_with fail
          refine (HKU.out _).mono ?_
          rintro e w3 ⟨rfl, b3⟩
          have HO3 := Lib.hid (HO.out.below b3)
          have HB3 := Lib.hid (HB.out.trans (b3.mono HB.out.size))
          clear b3 hcell
          go_wp2_with (refine wpList_append_kv rfl (.tmp 32) (.tmp 36) rfl w.heap.size _ (kvs s (l.take k)) k HLK.out rfl (HO3.out.below ((Below.refl _ _).alloc (Nat.le_refl _) _)) w3.heap.size (u, kb) rfl (heap_alloc_new w3 _) (by omega) (Nat.le_trans HB3.out.size (by simp)) ?_; intro g' c' w4 HO4 HB4 HG4)
          go_roundw
          case rel =>
            refine ⟨k + 1, c', g', by go_num, rfl, by omega, ?_, ?_, ?_⟩
            · rw [HTK.out]; unfold kvs; rw [List.map_append, List.map_singleton, HKB.out]; exact HO4.out
            · rw [HTK.out]; unfold validAll; rw [List.all_append]; simp only [List.all_cons, List.all_nil, Bool.and_true, Bool.and_eq_true]; exact ⟨HV.out, HVU.out.2 (by first | trivial | rfl)⟩
            · exact (HB3.out.trans ((Below.refl _ _).alloc HB3.out.size _)).trans HB4.out
          case measure => simp [intOf]; omega
        · obtain rfl : m = 1 := by
            rcases hr with h | h | h
            · exact absurd h hm0
            · exact h
            · exfalso
              have h2 := HM.out
              unfold keyR at h2; rw [if_pos HSC.out] at h2
              cases hk2 : keyO s u.data.toList
              · rw [hk2] at h2; have h3 : (1 : Int) = 14 := h2.trans h; omega
              · rw [hk2] at h2; have h3 : (0 : Int) = 14 := h2.trans h; omega
          have HE1 := Lib.hid (show errW s l = 1 by
            rw [HE.out, if_neg]
            intro h
            unfold validAll at h
            rw [List.all_eq_true] at h
            have h3 := HVU.out.1 (h u HUM.out)
            cases h3)
          clear hr hm0
          generalize bs (keyR s u.data.toList).1 = kb at HKU HKB
          go_wp2_with fail
          refine (HKU.out _).mono ?_
          rintro e w3 ⟨rfl, b3⟩
          have HB3 := Lib.hid (HB.out.trans (b3.mono HB.out.size))
          clear b3 hcell
          go_wp2_with fail
          go_ret2
          exact ⟨none, 0, 0, by rw [HE1.out]; rfl, fun h => absurd h (by rw [HE1.out]; decide), fun _ => ⟨rfl, rfl, rfl⟩, HB3.out⟩
      · obtain rfl : k = n := by omega
        have hd : decide ((k : Int) < (k : Int)) = false := by simp
        have HTK := Lib.hid (show l.take k = l from List.take_of_length_le (by have := HL.out.len; omega))
        have HE0 := Lib.hid (show errW s l = 0 by rw [HE.out, if_pos]; have := HV.out; rw [HTK.out] at this; exact this)
        have HLE := Lib.hid HL.out.len
        clear hlt
        go_wp2_with fail
        go_ret2
        refine ⟨g, k, c, by rw [HE0.out]; rfl, fun _ => ⟨HLE.out.symm, ?_⟩, fun h => absurd HE0.out h, HB.out⟩
        have := HO.out; rw [HTK.out] at this; exact this
end Go.Proofs.YtceeilojcifgeaaDoor
