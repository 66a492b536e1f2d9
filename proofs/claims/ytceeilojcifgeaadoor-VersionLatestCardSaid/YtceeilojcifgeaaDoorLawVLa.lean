/-
  VersionLatest: lemmas on the latest version and the sorted list, and the walk of the law.
-/
import Derived.Test.YtceeilojcifgeaaDoorVsoD
import Derived.Test.YtceeilojcifgeaaDoorTapV
import Derived.Test.YtceeilojcifgeaaDoorLawVVa
namespace Go.Proofs.YtceeilojcifgeaaDoor
open Go.RowKit Go.Sort

theorem cKV_refl (x : KV) : cKV x x = 0 := by unfold cKV; exact lx_refl _
theorem cKV_trans {x y z : KV} (h1 : cKV x y ≤ 0) (h2 : cKV y z ≤ 0) : cKV x z ≤ 0 := by unfold cKV at *; exact lx_trans _ _ _ h1 h2
theorem maxS_mem (ks : List KV) : ∀ n, n < ks.length → maxS ks n ∈ ks
  | 0, h => by rw [maxS, List.getD_eq_getElem?_getD, List.getElem?_eq_getElem h]; exact List.getElem_mem _
  | n + 1, h => by
    rw [maxS]
    split
    · rw [List.getD_eq_getElem?_getD, List.getElem?_eq_getElem h]; exact List.getElem_mem _
    · exact maxS_mem ks n (by omega)
theorem maxS_max (ks : List KV) : ∀ n i, i ≤ n → cKV (ks.getD i default) (maxS ks n) ≤ 0
  | 0, i, h => by obtain rfl : i = 0 := by omega
                  rw [maxS, cKV_refl]; omega
  | n + 1, i, h => by
    rw [maxS]
    rcases (by omega : i ≤ n ∨ i = n + 1) with h1 | rfl
    · have h2 := maxS_max ks n i h1
      split
      · rename_i h3
        exact cKV_trans h2 (by rw [cKV_swap] at h3; omega)
      · exact h2
    · split
      · rw [cKV_refl]; omega
      · rename_i h3; omega
theorem maxS_all {ks : List KV} {n : Nat} {x : KV} (hn : ks.length = n + 1) (hx : x ∈ ks) : cKV x (maxS ks n) ≤ 0 := by
  obtain ⟨i, hi, rfl⟩ := List.getElem_of_mem hx
  have := maxS_max ks n i (by omega)
  rwa [List.getD_eq_getElem?_getD, List.getElem?_eq_getElem hi] at this
theorem StSorted.last {ks m : List KV} (h : StSorted ks m) {n : Nat} {x y : KV} (hn : ks.length = n + 1) (hy : m[n]? = some y) (hx : x ∈ m) : cKV x y ≤ 0 := by
  obtain ⟨d, h1, h2, h3, rfl⟩ := h
  obtain ⟨i, hi, rfl⟩ := List.getElem_of_mem hx
  have hi' : i < d.size := by simpa using hi
  have hyd : d[n]!.1 = y := by
    rw [getElem!_pos d n (by omega)]
    have := (List.getElem?_eq_some_iff.1 hy).2
    simpa using this
  have hxd : d[i]!.1 = (d.toList.map (·.1))[i] := by
    rw [getElem!_pos d i hi']; simp
  rcases (by omega : i < n ∨ i = n) with h4 | rfl
  · have h5 := h3 i n (Nat.zero_le _) h4 (by omega)
    rw [tl_iff, hxd, hyd] at h5
    unfold ltOf at h5
    simp only [decide_eq_true_eq, decide_eq_false_iff_not, Int.not_lt] at h5
    rcases h5 with h5 | ⟨h5, _⟩
    · omega
    · rw [cKV_swap] at h5; omega
  · rw [← hxd, hyd]; rw [cKV_refl]; omega
theorem OwnS.shape {w : World} {base : Nat} {v : Value} {l : List ByteArray} (h : OwnS w base v l) : ∃ sp cap, v = .slice sp l.length cap := own_shapeG h
theorem own_turn {w w' : World} {tb : Nat} {v : Value} {l : List ByteArray} (h : OwnS w (tb + 1) v l) (ht : Turn tb w w') : OwnS w' (tb + 1) v l := own_keptV h (fun k hk hk2 => ht.block k hk2 (by omega))
theorem cmp_kv {s : Int} {a b : ByteArray} (ha : valB s a.data.toList = true) (hb : valB s b.data.toList = true) (w : World) :
    Calls Tryd.prog 12 #[.int .i64 s, .string a, .string b] w fun e w' => e = .returned (.tuple #[.int .i64 (cKV (a, keyB s a) (b, keyB s b)), .int .i64 0]) ∧ Below w.heap.size w w' := by
  obtain ⟨la, rfl⟩ := bs_eq a
  obtain ⟨lb, rfl⟩ := bs_eq b
  rw [bs_data] at ha hb
  have ea : keyR s la = ((keyR s la).1, 0) := Prod.ext rfl (valB_key.1 ha)
  have eb : keyR s lb = ((keyR s lb).1, 0) := Prod.ext rfl (valB_key.1 hb)
  have h := compare_anyV s la lb w
  have e : cmpR s la lb = (cKV (bs la, keyB s (bs la)) (bs lb, keyB s (bs lb)), 0) := by
    unfold cmpR cKV keyB
    dsimp only
    rw [bs_data, bs_data, bs_data, bs_data, ea, eb]; rfl
  rw [e] at h; exact h
theorem ba_ne {x v : ByteArray} (h : ¬ x = v) : (x.toList == v.toList) = false := by
  rw [beq_eq_false_iff_ne, Lib.toList_data, Lib.toList_data]
  intro e
  apply h
  rw [← bs_of x, ← bs_of v, e]
set_option maxRecDepth 100000 in
set_option maxHeartbeats 1000000 in
theorem hasW_any (sp : Option Addr) (n cap : Nat) (l : List ByteArray) (v : ByteArray) (w : World) (h : StrR w sp n l) (hn : n ≤ 1000) (hv : v ∈ l) :
    Calls Tryd.prog 17 #[.slice sp n cap, .string v] w fun e w' => e = .returned (.bool true) ∧ w = w' := by
  have H := Lib.hid h; have HV := Lib.hid hv; clear h hv
  go_enter Tryd.func17, Tryd.ntmps17
  go_wp2_with fail
  go_loopw [5] (fun i wr => ∃ k : Nat, k ≤ n ∧ i = .int .i64 k ∧ Hid (w = wr ∧ v ∉ l.take k)) (fun i _ => n - (intOf i).toNat)
  case atStart => exact ⟨0, Nat.zero_le _, rfl, rfl, by simp⟩
  case round =>
    obtain ⟨k, hk, rfl, hw⟩ := hrel
    have HN := Lib.hid hw.out.2
    obtain rfl := hw.out.1
    clear hw
    by_cases hlt : k < n
    · have hd : decide ((k : Int) < (n : Int)) = true := by simp; omega
      have p1 : (0 : Int) ≤ (k : Int) := by omega
      have p2 : (k : Int) < (n : Int) := by omega
      obtain ⟨b1, o1, rfl, _, g1⟩ := H.out.cells (by omega)
      obtain ⟨x, hx⟩ : ∃ x, l[k]? = some x := ⟨l[k]'(by have := H.out.len; omega), List.getElem?_eq_getElem _⟩
      have x1 : w.cell? ⟨b1, o1 + k, none⟩ = some (.string x) := g1 k x hx
      have HT := Lib.hid (show l.take (k + 1) = l.take k ++ [x] by rw [List.take_add_one, hx]; rfl)
      have HX := Lib.hid (List.mem_of_getElem? hx)
      clear g1 hx
      by_cases he : x = v
      · have e1 : (x.toList == v.toList) = true := by rw [he]; simp
        clear he
        go_wp2_with fail
        go_ret
        exact ⟨rfl, rfl⟩
      · have e1 := ba_ne he
        have HN2 := Lib.hid (show v ∉ l.take (k + 1) by
          rw [HT.out, List.mem_append, List.mem_singleton]
          rintro (h | h)
          · exact HN.out h
          · exact he h.symm)
        clear he
        go_wp2_with fail
        go_roundw
        case rel => exact ⟨k + 1, by omega, by go_num, by trivial, HN2.out⟩
        case measure => simp [intOf]; omega
    · obtain rfl : n = k := by omega
      exact absurd HV.out (by have := HN.out; rwa [List.take_of_length_le (by have := H.out.len; omega)] at this)
set_option maxRecDepth 100000 in
set_option maxHeartbeats 4000000 in
theorem versionLatest_any (n : Int) (st : Option Addr) (m ct : Nat) (lt : List Int) (w : World) (hn : -9223372036854775808 ≤ n ∧ n ≤ 9223372036854775807) (ht : IntA w st m ct lt) :
    Calls Tryd.prog 5 #[.int .i64 n, .slice st m ct] w fun e w' => e = .returned (.bool true) ∧ Below w.heap.size w w' := by
  have HT := Lib.hid ht; clear ht
  have HSC := Lib.hid (fun w => scheme_any n w)
  have HR := Lib.hid (schN_rng n)
  generalize schN n = s at *
  have hsch : schB s = true := by rcases HR.out with rfl | rfl | rfl <;> rfl
  have HS := Lib.hid hsch; clear hsch hn
  go_enter Tryd.func5, Tryd.ntmps5
  go_wp2_with fail
  generalize hw0 : World.alloc w _ = w0
  have h1 : w0.heap[w.heap.size]? = some (.cells #[.slice st m ct, .int .i64 (0 : Nat)] 35 (0, 0)) := by
    rw [← hw0]; exact heap_alloc_new w _
  have hb0 : Below w.heap.size w w0 := by rw [← hw0]; exact (Below.refl _ _).alloc (Nat.le_refl _) _
  clear hw0
  have HTP0 := Lib.hid (show Tp w0 w.heap.size 9 from ⟨st, m, ct, lt, 0, ⟨h1, HT.out.len, fun hm => by
    obtain ⟨b, off, e1, e2, e3, e4⟩ := HT.out.cells hm
    exact ⟨b, off, e1, by omega, e3, fun i v hi => (hb0.cell (p := ⟨b, off + i, none⟩) e2).trans (e4 i v hi)⟩, HT.out.wide, HT.out.short⟩, by omega⟩)
  have HB0 := Lib.hid hb0
  clear h1 hb0
  refine (HSC.out _).mono ?_
  rintro e w' ⟨rfl, rfl⟩
  go_wp2_with fail
  refine (next_any w.heap.size 8 8 w0 HTP0.out (by omega) (by omega)).mono ?_
  rintro e w1 ⟨r, rfl, hr8, ht1, hu1⟩
  have HT1 := Lib.hid ht1
  have HB1 := Lib.hid (HB0.out.trans (hu1.below (B := w.heap.size) (Nat.le_refl _) HTP0.out.lt))
  clear ht1 hu1
  go_wp2_with fail
  go_loopw [7, 8] (fun v7 v8 wr => ∃ (k j c : Nat) (sp : Option Addr) (ls : List ByteArray), v7 = .slice sp j c ∧ v8 = .int .i64 k ∧ k + j = r + 1 ∧ Hid (ls.length = j ∧ OwnS wr (w.heap.size + 1) (.slice sp j c) ls ∧ (∀ x ∈ ls, valB s x.data.toList = true) ∧ Tp wr w.heap.size k ∧ Below w.heap.size w wr)) (fun _ v8 _ => (intOf v8).toNat)
  case atStart => exact ⟨r + 1, 0, 0, none, [], rfl, by go_num, by omega, rfl, OwnS.nil _ _, fun x hx => by simp at hx, HT1.out.le (by omega), HB1.out⟩
  case round =>
    clear HT1 HB1 HTP0 HB0
    obtain ⟨k, j, c, sp, ls, rfl, rfl, hkj, H⟩ := hrel
    have HLN := Lib.hid H.out.1; have HO := Lib.hid H.out.2.1; have HV := Lib.hid H.out.2.2.1; have HTP := Lib.hid H.out.2.2.2.1; have HB := Lib.hid H.out.2.2.2.2
    clear H
    rcases k with _ | k
    · have hd : decide (((0 : Nat) : Int) > 0) = false := by simp
      have hd' : decide ((0 : Int) > 0) = false := by simp
      obtain ⟨q, rfl⟩ : ∃ q, j = q + 1 := ⟨r, by omega⟩
      have HSTR := Lib.hid (HO.out.r HLN.out)
      have HER := Lib.hid (show errW s ls = 0 by
        unfold errW; rw [HS.out, if_pos rfl, if_pos]; unfold validAll; rw [List.all_eq_true]; exact HV.out)
      have HLR := Lib.hid (show latR s ls = ((maxS (kvs s ls) q).1, 0) by
        unfold latR; rw [HER.out, if_neg (by simp), if_neg (by rintro rfl; simp at HLN; exact absurd HLN.out (by simp)), HLN.out]; rfl)
      have HKL := Lib.hid (show (kvs s ls).length = q + 1 by rw [kvs_len, HLN.out])
      obtain ⟨mx, hmx⟩ : ∃ mx, maxS (kvs s ls) q = mx := ⟨_, rfl⟩
      have hmm := maxS_mem (kvs s ls) q (by rw [HKL.out]; omega)
      rw [hmx] at hmm HLR
      obtain ⟨va, hva, rfl⟩ := List.mem_map.1 hmm
      have HVA := Lib.hid hva
      have HMX := Lib.hid hmx
      have HLE := Lib.hid (show ∀ x ∈ ls, cKV (x, keyB s x) (va, keyB s va) ≤ 0 from fun x hx => by
        have := maxS_all (ks := kvs s ls) (n := q) HKL.out (List.mem_map_of_mem hx)
        rwa [HMX.out] at this)
      clear hmx hmm hva
      have HLAT := Lib.hid (fun w h => latest_any s sp (q + 1) c ls w h (by omega))
      rw [HLR.out] at HLAT
      go_wp2_with fail
      refine (HLAT.out _ HSTR.out).mono ?_
      rintro e w2 ⟨rfl, b2⟩
      have HSTR2 := Lib.hid (HSTR.out.below b2)
      have HB2 := Lib.hid (HB.out.trans (b2.mono HB.out.size))
      clear b2
      go_wp2_with fail
      refine (sort_any s sp (q + 1) c ls w2 HSTR2.out (by omega)).mono ?_
      rintro e w3 ⟨sp3, n3, c3, he, h1, _, b3⟩
      obtain ⟨mm, hm1, hm2, hm3⟩ := h1 HER.out
      rw [HER.out] at he
      rw [HLN.out] at hm2
      subst he hm2
      have HSTR3 := Lib.hid (HSTR2.out.below b3)
      have HB3 := Lib.hid (HB2.out.trans (b3.mono HB2.out.size))
      have HM := Lib.hid hm1
      have HML := Lib.hid (show mm.length = q + 1 by rw [hm1.len, HKL.out])
      have HSRT := Lib.hid (hm3.r (by rw [List.length_map, HML.out]))
      have HIN := Lib.hid (show ∀ x ∈ ls, x ∈ mm.map (·.1) from fun x hx => by
        have h2 : (x, keyB s x) ∈ mm := hm1.perm.mem_iff.2 (List.mem_map_of_mem hx)
        exact List.mem_map.2 ⟨_, h2, rfl⟩)
      clear h1 hm1 hm3 b3
      go_wp2_with fail
      refine (hasW_any sp (q + 1) c ls va w3 HSTR3.out (by omega) HVA.out).mono ?_
      rintro e w' ⟨rfl, rfl⟩
      have hlen : ((((q + 1 : Nat) : Int)) != ((q + 1 : Nat) : Int)) = false := by simp
      go_wp2_with fail
      go_loopw [13] (fun i wr => ∃ k : Nat, k ≤ q + 1 ∧ i = .int .i64 k ∧ Hid (Below w3.heap.size w3 wr)) (fun i _ => q + 1 - (intOf i).toNat)
      case atStart => exact ⟨0, Nat.zero_le _, rfl, Below.refl _ _⟩
      case round =>
        obtain ⟨k, hk, rfl, hbe⟩ := hrel
        have HBE := Lib.hid hbe.out
        clear hbe
        by_cases hlt : k < q + 1
        · have hd : decide ((k : Int) < ((q + 1 : Nat) : Int)) = true := by simp; omega
          have p1 : (0 : Int) ≤ (k : Int) := by omega
          have p2 : (k : Int) < ((q + 1 : Nat) : Int) := by omega
          have HSW := Lib.hid (HSTR3.out.below HBE.out)
          obtain ⟨b1, o1, rfl, hb1, g1⟩ := HSW.out.cells (by omega)
          obtain ⟨x, hx⟩ : ∃ x, ls[k]? = some x := ⟨ls[k]'(by have := HLN.out; omega), List.getElem?_eq_getElem _⟩
          have HXM := Lib.hid (List.mem_of_getElem? hx)
          have x1 : wr.cell? ⟨b1, o1 + k, none⟩ = some (.string x) := g1 k x hx
          have HB1 := Lib.hid hb1
          clear g1 hx hb1
          obtain ⟨cc, hcc⟩ : ∃ cc, cKV (x, keyB s x) (va, keyB s va) = cc := ⟨_, rfl⟩
          have hc0 : ¬ cc > 0 := by have := HLE.out x HXM.out; omega
          have HCM := Lib.hid (fun w => cmp_kv (HV.out x HXM.out) (HV.out va HVA.out) w)
          rw [hcc] at HCM
          clear hcc
          have hcd : decide (cc > 0) = false := by simp; omega
          go_wp2_with fail
          refine (HCM.out _).mono ?_
          rintro e w5 ⟨rfl, b5⟩
          have HB5 := Lib.hid (HBE.out.trans (b5.mono HBE.out.size))
          have x2 : w5.cell? ⟨b1, o1 + k, none⟩ = some (.string x) := (b5.cell (p := ⟨b1, o1 + k, none⟩) HB1.out).trans x1
          have HSR := Lib.hid (HSRT.out.below HB5.out)
          clear b5 x1
          go_wp2_with fail
          refine (hasW_any sp3 (q + 1) c3 _ x w5 HSR.out (by omega) (HIN.out x HXM.out)).mono ?_
          rintro e w' ⟨rfl, rfl⟩
          go_wp2_with fail
          go_roundw
          case rel => exact ⟨k + 1, by omega, by go_num, HB5.out⟩
          case measure => simp [intOf]; omega
        · obtain rfl : k = q + 1 := by omega
          have hd : decide (((q + 1 : Nat) : Int) < ((q + 1 : Nat) : Int)) = false := by simp
          have HSR := Lib.hid (HSRT.out.below HBE.out)
          obtain ⟨b1, o1, rfl, hb1, g1⟩ := HSR.out.cells (by omega)
          obtain ⟨y, hy⟩ : ∃ y, mm[q]? = some y := ⟨mm[q]'(by have := HML.out; omega), List.getElem?_eq_getElem _⟩
          have x1 : wr.cell? ⟨b1, o1 + q, none⟩ = some (.string y.1) := g1 q y.1 (by rw [List.getElem?_map, hy]; rfl)
          have hym := HM.out.perm.mem_iff.1 (List.mem_of_getElem? hy)
          obtain ⟨z, hz, rfl⟩ := List.mem_map.1 hym
          have HZ := Lib.hid hz
          have hvm : (va, keyB s va) ∈ mm := HM.out.perm.mem_iff.2 (List.mem_map_of_mem HVA.out)
          have h9 := HM.out.last HKL.out hy hvm
          have h8 := HLE.out z hz
          have h7 : cKV (z, keyB s z) (va, keyB s va) = 0 := by rw [cKV_swap] at h9; omega
          have HCM := Lib.hid (fun w => cmp_kv (HV.out z hz) (HV.out va HVA.out) w)
          rw [h7] at HCM
          clear g1 hb1 hy hym hz hvm h9 h8 h7 hlt
          have p1 : (0 : Int) ≤ (q : Int) := by omega
          have p2 : (q : Int) < ((q + 1 : Nat) : Int) := by omega
          have p3 : ((q + 1 : Nat) : Int) - 1 = (q : Int) := by omega
          have p4 : (q : Int) + 1 - 1 = (q : Int) := by omega
          go_wp2_with fail
          refine (HCM.out _).mono ?_
          rintro e w5 ⟨rfl, b5⟩
          have HB5 := Lib.hid (HBE.out.trans (b5.mono HBE.out.size))
          clear b5 x1
          go_wp2_with fail
          refine (awake6_any _).mono ?_
          rintro e w9 ⟨rfl, b9⟩
          have B9 := Lib.hid b9; clear b9
          go_wp2_with fail
          go_ret
          exact ⟨rfl, nextB (HB3.out.trans (HB5.out.mono HB3.out.size)) B9.out⟩
    · have hd : decide (((k + 1 : Nat) : Int) > 0) = true := by simp
      go_wp2_with fail
      refine (tversion_any w.heap.size k s wr HR.out HTP.out).mono ?_
      rintro e w1 ⟨v, rfl, hv, ht1, hu1⟩
      have HV1 := Lib.hid hv; have HTP1 := Lib.hid ht1
      have HB1 := Lib.hid (HB.out.trans (hu1.below (B := w.heap.size) (Nat.le_refl _) HTP.out.lt))
      have HO1 := Lib.hid (own_turn HO.out hu1)
      have HSZ := Lib.hid (show w.heap.size + 1 ≤ w1.heap.size from ht1.lt)
      clear hv ht1 hu1
      have HY := Lib.hid (show (w1.alloc (.cells #[.string v] 9)).heap[w1.heap.size]? = some (.cells #[.string v] 9 (0, 0)) from heap_alloc_new w1 _)
      go_wp2_with (at_builtin; refine wpList_append_sv rfl (.tmp 30) (.tmp 34) rfl (w.heap.size + 1) _ ls j HLN.out.symm rfl (HO1.out.below ((Below.refl _ _).alloc (Nat.le_refl _) _)) w1.heap.size v rfl HY.out (by omega) (Nat.le_trans HSZ.out (by simp)) ?_; intro g' c' w4 HO4 HB4 HG4)
      have HB5 := Lib.hid ((HB1.out.alloc HB1.out.size _).trans (HB4.out.mono (by omega)))
      have HTP5 := Lib.hid (show Tp w4 w.heap.size k from (HTP1.out.of ((Below.refl _ _).alloc (Nat.le_refl _) _)).ofB HB4.out (by omega))
      go_roundw
      case rel =>
        refine ⟨k, j + 1, c', g', ls ++ [v], rfl, by go_num, by omega, by rw [List.length_append, HLN.out]; rfl, HO4.out, ?_, HTP5.out, HB5.out⟩
        intro x hx
        rcases List.mem_append.1 hx with h | h
        · exact HV.out x h
        · rw [List.mem_singleton.1 h]; exact HV1.out
      case measure => simp [intOf]
end Go.Proofs.YtceeilojcifgeaaDoor
