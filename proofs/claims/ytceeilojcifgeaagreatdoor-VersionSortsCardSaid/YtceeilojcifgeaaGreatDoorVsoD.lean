/-
  Versions: the walks of slices.MaxFunc at versions with keys, and of Latest (lists of at most 1000 strings).
-/
import Derived.Test.YtceeilojcifgeaaGreatDoorGc
import Derived.Test.YtceeilojcifgeaaGreatDoorTapP
namespace Go.Proofs.YtceeilojcifgeaaGreatDoor
open Go.RowKit Go.Sort

instance : Inhabited KV := ⟨(ByteArray.empty, ByteArray.empty)⟩
/-- the first of the greatest among the first i + 1 -/
def maxS (ks : List KV) : Nat → KV
  | 0 => ks.getD 0 default
  | i + 1 => if 0 < cKV (ks.getD (i + 1) default) (maxS ks i) then ks.getD (i + 1) default else maxS ks i
theorem below_grown {B : Nat} {w W : World} (h : Below B w W) (hB : B ≤ W.heap.size) (q : Nat) (os : Array Obj) : Below B w (Sort.grow (W.drewN q) os) := by
  refine ⟨h.os, h.tape, h.output, Nat.le_trans h.size (by simp [Sort.size_grow]), fun k hk => ?_⟩
  rw [Sort.heap_grow_old _ _ (by show k < W.heap.size; omega)]
  exact h.block k hk
theorem row_grown {W : World} {b : Nat} {o : Obj} (h : W.heap[b]? = some o) (q : Nat) (os : Array Obj) : (Sort.grow (W.drewN q) os).heap[b]? = some o := by
  rw [Sort.heap_grow_old _ _ (by show b < W.heap.size; exact (Array.getElem?_eq_some_iff.1 h).1)]
  exact h
theorem kv_row {w : World} {b : Nat} {x : KV} (h : w.heap[b]? = some (.cells #[.string x.1, .string x.2] 62 (0, 0))) :
    w.cell? ⟨b, 0, none⟩ = some (.string x.1) ∧ w.cell? ⟨b, 1, none⟩ = some (.string x.2) ∧ w.frozen? ⟨b, 0, none⟩ = false ∧ w.frozen? ⟨b, 1, none⟩ = false :=
  ⟨by rw [cell_of_row w b 0 _ _ _ h]; rfl, by rw [cell_of_row w b 1 _ _ _ h]; rfl, frozen_of_row w b 0 _ _ h, frozen_of_row w b 1 _ _ h⟩
theorem infoK2 : (Tryz.prog.info? 62).map (·.size) = some 2 := by kernel_rfl
set_option maxRecDepth 1000000 in
set_option maxHeartbeats 4000000 in
theorem maxFunc_any (g n cap : Nat) (ks : List KV) (w : World) (h : KvIn w g ks) (hn : ks.length = n) (h1 : 1 ≤ n) (h2 : n ≤ 1000) :
    Calls Tryz.prog 32 #[.slice (some ⟨g, 0, none⟩) n cap, .func (.func 31) #[] #[]] w fun e w' => e = .returned (.agg #[.string (maxS ks (n - 1)).1, .string (maxS ks (n - 1)).2]) ∧ Below w.heap.size w w' := by
  have mixed : Tryz.prog.follows .mixedOrders = true := by kernel_rfl
  have eg := byKey_enters
  have HK := Lib.hid h; have HN := Lib.hid hn
  have hgl := h.lt
  have hd : decide ((n : Int) < 1) = false := by simp; omega
  have hd2 : ¬ (n : Int) < 1 := by omega
  have hn0 : ¬ n = 0 := by omega
  have hn1 : 0 < n := by omega
  have HG := Lib.hid (show ∀ i, i < n → ks[i]? = some (ks.getD i default) from fun i hi => by rw [List.getD_eq_getElem?_getD, List.getElem?_eq_getElem (by omega)]; rfl)
  have h0a : w.cell? ⟨g, 0, none⟩ = some (.string (ks.getD 0 default).1) := by have := h.a 0 _ (HG.out 0 hn1); rwa [Nat.zero_mul] at this
  have h0b : w.cell? ⟨g, 1, none⟩ = some (.string (ks.getD 0 default).2) := by have := h.b 0 _ (HG.out 0 hn1); rwa [Nat.zero_mul] at this
  have HMX : Hid (maxS ks 0 = ks.getD 0 default) := rfl
  have h0a' : (w.alloc (.cells #[.string ⟨#[]⟩, .string ⟨#[]⟩] 62)).cell? ⟨g, 0, none⟩ = some (.string (ks.getD 0 default).1) := (World.cell?_of_block (a := ⟨g, 0, none⟩) (Below.heap_alloc _ _ _ hgl)).trans h0a
  have h0b' : (w.alloc (.cells #[.string ⟨#[]⟩, .string ⟨#[]⟩] 62)).cell? ⟨g, 1, none⟩ = some (.string (ks.getD 0 default).2) := (World.cell?_of_block (a := ⟨g, 1, none⟩) (Below.heap_alloc _ _ _ hgl)).trans h0b
  generalize hx0 : ks.getD 0 default = x0 at *
  obtain ⟨x0a, x0b⟩ := x0
  dsimp only at h0a h0b h0a' h0b'
  have HX0 := Lib.hid hx0
  clear h hn hx0
  go_enter Tryz.func32, Tryz.ntmps32
  go_wp2_with fail
  generalize hw0 : World.alloc (World.alloc w _) _ = w0
  have h4 : w0.heap[w.heap.size]? = some (.cells #[.string ⟨#[]⟩, .string ⟨#[]⟩] 62 (0, 0)) := by rw [← hw0, Below.heap_alloc _ _ _ (by simp)]; exact heap_alloc_new _ _
  have h5 : w0.heap[w.heap.size + 1]? = some (.cells #[.string x0a, .string x0b] 62 (0, 0)) := by
    rw [← hw0]; have := heap_alloc_new (w.alloc (.cells #[.string ⟨#[]⟩, .string ⟨#[]⟩] 62)) (.cells #[.string x0a, .string x0b] 62); rw [World.size_alloc] at this; exact this
  have hb0 : Below w.heap.size w w0 := by rw [← hw0]; exact ((Below.refl _ _).alloc (Nat.le_refl _) _).alloc (by simp) _
  clear hw0
  generalize hb5 : w.heap.size + 1 = b5 at *
  have HB5 := Lib.hid hb5
  have HR4 := Lib.hid h4; have HR5 := Lib.hid h5; have HB0 := Lib.hid hb0
  have HK0 := Lib.hid (HK.out.below hb0 hgl)
  clear h4 h5 hb0 hb5 h0a h0b h0a' h0b' hd hd2 hn0
  go_loopg [6] n (fun gk vi wr => ∃ (i j : Nat) (mv : KV), vi = .int .i64 i ∧ 1 ≤ i ∧ i ≤ n ∧ n ≤ gk + i ∧ Hid (i = j + 1 ∧ mv = maxS ks j ∧ KvIn wr g ks ∧ wr.heap[w.heap.size]? = some (.cells #[.string ⟨#[]⟩, .string ⟨#[]⟩] 62 (0, 0)) ∧ wr.heap[b5]? = some (.cells #[.string mv.1, .string mv.2] 62 (0, 0)) ∧ Below w.heap.size w wr))
  case atStart => exact ⟨1, 0, (x0a, x0b), rfl, Nat.le_refl _, h1, by omega, rfl, by rw [HMX.out], HK0.out, HR4.out, HR5.out, HB0.out⟩
  case round =>
    clear HR4 HR5 HB0 HK0
    obtain ⟨i, j, mv, rfl, hi1, hin, hg, H⟩ := hrel
    have HIJ := Lib.hid H.out.1; have HMV := Lib.hid H.out.2.1; have HKV := Lib.hid H.out.2.2.1; have HR4 := Lib.hid H.out.2.2.2.1; have HR5 := Lib.hid H.out.2.2.2.2.1; have HB := Lib.hid H.out.2.2.2.2.2
    clear H
    obtain ⟨ma, mb⟩ := mv
    by_cases hlt : i < n
    · have hd : decide ((i : Int) < (n : Int)) = true := by simp; omega
      have p0 : (0 : Int) ≤ (i : Int) := by omega
      have p1 : (i : Int) < (n : Int) := by omega
      obtain ⟨x, hx⟩ : ∃ x, ks.getD i default = x := ⟨_, rfl⟩
      have hxi : ks[i]? = some x := by rw [HG.out i hlt, hx]
      have HXI := Lib.hid hx
      obtain ⟨xa, xb⟩ := x
      have c1 : ∀ n os, (Sort.grow (wr.drewN n) os).cell? ⟨g, i * 2, none⟩ = some (.string xa) := fun n os => cell_grown HKV.out.lt (HKV.out.a i _ hxi) n os
      have c2 : ∀ n os, (Sort.grow (wr.drewN n) os).cell? ⟨g, i * 2 + 1, none⟩ = some (.string xb) := fun n os => cell_grown HKV.out.lt (HKV.out.b i _ hxi) n os
      have hb5l : b5 < wr.heap.size := (Array.getElem?_eq_some_iff.1 HR5.out).1
      have c3 : ∀ n os, (Sort.grow (wr.drewN n) os).cell? ⟨b5, 0, none⟩ = some (.string ma) := fun n os => cell_grown hb5l (kv_row HR5.out).1 n os
      have c4 : ∀ n os, (Sort.grow (wr.drewN n) os).cell? ⟨b5, 1, none⟩ = some (.string mb) := fun n os => cell_grown hb5l (kv_row HR5.out).2.1 n os
      have hc : ∀ n' os', Calls Tryz.prog 31 #[.agg #[.string xa, .string xb], .agg #[.string ma, .string mb]] (Sort.grow (wr.drewN n') os') fun e w' => e = .returned (.int .i64 (cKV (xa, xb) (ma, mb))) ∧ ∃ q os'', w' = Sort.grow ((Sort.grow (wr.drewN n') os').drewN q) os'' := fun n' os' => byKey_any (xa, xb) (ma, mb) _
      have HMS : Hid (maxS ks (j + 1) = if 0 < cKV (xa, xb) (ma, mb) then (xa, xb) else (ma, mb)) := by
        show maxS ks (j + 1) = _
        rw [maxS, ← HMV.out, ← HIJ.out, hx]
      have HXX := Lib.hid hxi
      clear hx hxi
      generalize cKV (xa, xb) (ma, mb) = v at *
      have hlow : w.heap.size ≤ wr.heap.size := HB.out.size
      by_cases hv : 0 < v
      · have hdv : decide (v > 0) = true := by simp; omega
        have hdv2 : decide (0 < v) = true := by simp; omega
        have HMS2 := Lib.hid (show maxS ks (j + 1) = (xa, xb) by rw [HMS.out, if_pos hv])
        clear HMS
        go_wp2_with fail
        go_quiet_grown (first | (go_at_fn 31; refine Calls.grown_of (hc _ _)))
        have HKV2 := Lib.hid (show KvIn (Sort.grow (wr.drewN nq) osq) g ks from HKV.out.below (below_grown (Below.refl wr.heap.size wr) (Nat.le_refl _) nq osq) HKV.out.lt)
        have HR42 := Lib.hid (row_grown HR4.out nq osq)
        have HR52 := Lib.hid (row_grown HR5.out nq osq)
        have HB2 := Lib.hid (below_grown HB.out hlow nq osq)
        clear c1 c2 c3 c4 hc
        generalize Sort.grow (wr.drewN nq) osq = wq at *
        have d1 : wq.cell? ⟨g, i * 2, none⟩ = some (.string xa) := HKV2.out.a i _ HXX.out
        have d2 : wq.cell? ⟨g, i * 2 + 1, none⟩ = some (.string xb) := HKV2.out.b i _ HXX.out
        obtain ⟨d3, d4, d5, d6⟩ := kv_row (x := (ma, mb)) HR52.out
        dsimp only at d3 d4
        go_wp2_with fail
        generalize hw3 : World.setCell (World.setCell wq _ _) _ _ = w3
        have e1 := heap_setCell_same wq b5 0 _ _ (.string xa) HR52.out
        have e2 := heap_setCell_same _ b5 1 _ _ (.string xb) e1
        have HR53 := Lib.hid (show w3.heap[b5]? = some (.cells #[.string xa, .string xb] 62 (0, 0)) by rw [← hw3]; exact e2)
        have hbb : Below b5 wq w3 := by rw [← hw3]; exact ((Below.refl b5 wq).setCell (Nat.le_refl _) _).setCell (Nat.le_refl _) _
        have HR43 := Lib.hid ((hbb.block w.heap.size (by have := HB5.out; omega)).trans HR42.out)
        have HKV3 := Lib.hid (HKV2.out.below hbb (by have := HB5.out; omega))
        have HB3 := Lib.hid (HB2.out.trans (hbb.mono (by have := HB5.out; omega)))
        clear hw3 e1 e2 hbb d1 d2 d3 d4 d5 d6
        go_roundg (n - (i + 1))
        case measure => omega
        case rel => exact ⟨i + 1, j + 1, (xa, xb), by go_num, by omega, by omega, by omega, by rw [HIJ.out], HMS2.out.symm, HKV3.out, HR43.out, HR53.out, HB3.out⟩
      · have hdv : decide (v > 0) = false := by simp; omega
        have hdv2 : decide (0 < v) = false := by simp; omega
        have HMS2 := Lib.hid (show maxS ks (j + 1) = (ma, mb) by rw [HMS.out, if_neg hv])
        clear HMS
        go_wp2_with fail
        go_quiet_grown (first | (go_at_fn 31; refine Calls.grown_of (hc _ _)))
        have HKV2 := Lib.hid (show KvIn (Sort.grow (wr.drewN nq) osq) g ks from HKV.out.below (below_grown (Below.refl wr.heap.size wr) (Nat.le_refl _) nq osq) HKV.out.lt)
        have HR42 := Lib.hid (row_grown HR4.out nq osq)
        have HR52 := Lib.hid (row_grown HR5.out nq osq)
        have HB2 := Lib.hid (below_grown HB.out hlow nq osq)
        clear c1 c2 c3 c4 hc
        generalize Sort.grow (wr.drewN nq) osq = wq at *
        go_wp2_with fail
        go_roundg (n - (i + 1))
        case measure => omega
        case rel => exact ⟨i + 1, j + 1, (ma, mb), by go_num, by omega, by omega, by omega, by rw [HIJ.out], HMS2.out.symm, HKV2.out, HR42.out, HR52.out, HB2.out⟩
    · obtain rfl : i = n := by omega
      have hd : decide ((i : Int) < (i : Int)) = false := by simp
      have HE := Lib.hid (show maxS ks (i - 1) = (ma, mb) by rw [HMV.out, HIJ.out]; rfl)
      obtain ⟨d3, d4, -, -⟩ := kv_row (x := (ma, mb)) HR5.out
      obtain ⟨f3, f4, f5, f6⟩ := kv_row (x := (⟨#[]⟩, ⟨#[]⟩)) HR4.out
      dsimp only at d3 d4 f3 f4
      clear hlt
      go_wp2_with fail
      have e1 := heap_setCell_same wr w.heap.size 0 _ _ (.string ma) HR4.out
      have e2 := heap_setCell_same _ w.heap.size 1 _ _ (.string mb) e1
      refine bodyPost_ret (results_row1 (P := Tryz.prog) rfl _ _ w.heap.size 62 _ (0, 0) _ rfl e2 Tryz.underlying62 rfl infoK2) rfl ?_
      exact ⟨by rw [HE.out]; rfl, (HB.out.setCell (Nat.le_refl _) _).setCell (Nat.le_refl _) _⟩
theorem field_kv (a b : ByteArray) (w : World) : (Instr.field 62 (.agg #[.string a, .string b]) 0).run Tryz.prog w = .ok (.string a) w := by kernel_rfl
/-- what Latest answers -/
def latR (s : Int) (l : List ByteArray) : ByteArray × Int := if errW s l ≠ 0 then (⟨#[]⟩, errW s l) else if l = [] then (⟨#[]⟩, 4) else ((maxS (kvs s l) (l.length - 1)).1, 0)
set_option maxRecDepth 100000 in
set_option maxHeartbeats 2000000 in
theorem latest_any (s : Int) (sp : Option Addr) (n cap : Nat) (l : List ByteArray) (w : World) (hl : StrR w sp n l) (hn : n ≤ 1000) :
    Calls Tryz.prog 18 #[.int .i64 s, .slice sp n cap] w fun e w' => e = .returned (.tuple #[.string (latR s l).1, .int .i64 (latR s l).2]) ∧ Below w.heap.size w w' := by
  have HWK := Lib.hid (withKeys_any s sp n cap l w hl hn)
  have HLN := Lib.hid hl.len
  clear hl
  obtain ⟨er, her⟩ : ∃ er, errW s l = er := ⟨_, rfl⟩
  have HER := Lib.hid her
  have hr : er = 0 ∨ er = 1 ∨ er = 14 := by
    rw [← her]; unfold errW; split
    · split
      · exact .inl rfl
      · exact .inr (.inl rfl)
    · exact .inr (.inr rfl)
  clear her
  rcases hr with rfl | rfl | rfl
  · by_cases h0 : n = 0
    · have HX := Lib.hid (show latR s l = (⟨#[]⟩, 4) by
        unfold latR; rw [HER.out, if_neg (by simp), if_pos]; exact List.eq_nil_of_length_eq_zero (HLN.out.trans h0))
      rw [HX.out]
      subst h0
      go_enter Tryz.func18, Tryz.ntmps18
      go_wp2_with fail
      refine HWK.out.mono ?_
      rintro e w1 ⟨sp1, n1, c1, he, h1, _, b1⟩
      rw [HER.out] at he
      have h3 := (h1 HER.out).1
      rw [HLN.out] at h3
      clear h1
      subst he h3
      have B1 := Lib.hid b1; clear b1
      have hz0 : (((0 : Nat) : Int) == 0) = true := rfl
      go_wp2_with fail
      go_ret2
      exact ⟨rfl, B1.out⟩
    · have HX := Lib.hid (show latR s l = ((maxS (kvs s l) (n - 1)).1, 0) by
        unfold latR; rw [HER.out, if_neg (by simp), if_neg (by rintro rfl; exact h0 (HLN.out.symm.trans rfl)), HLN.out])
      rw [HX.out]
      go_enter Tryz.func18, Tryz.ntmps18
      go_wp2_with fail
      refine HWK.out.mono ?_
      rintro e w1 ⟨sp1, n1, c1, he, h1, _, b1⟩
      rw [HER.out] at he
      have h3 := h1 HER.out
      clear h1
      obtain ⟨h1, h2⟩ := h3
      rw [HLN.out] at h1
      subst he h1
      have hnz : ((n1 : Int) == 0) = false := by simp; omega
      obtain ⟨g, rfl⟩ : ∃ g, sp1 = some ⟨g, 0, none⟩ := by
        obtain ⟨_, ⟨e, h4⟩ | ⟨g, cap', cur, e, _⟩⟩ := h2
        · exact absurd (by injection e) h0
        · injection e with e1; exact ⟨g, e1⟩
      have HS := Lib.hid (maxFunc_any g n1 c1 (kvs s l) w1 (h2.kv (by rw [kvs_len, HLN.out])).1 (by rw [kvs_len, HLN.out]) (by omega) hn)
      have B1 := Lib.hid b1; clear b1 h2
      obtain ⟨mx, hmx⟩ : ∃ mx, maxS (kvs s l) (n1 - 1) = mx := ⟨_, rfl⟩
      rw [hmx] at HS
      obtain ⟨ma, mb⟩ := mx
      have HMX := Lib.hid hmx
      clear hmx
      have hfl := fun w => field_kv ma mb w
      go_wp2_with fail
      refine HS.out.mono ?_
      rintro e w2 ⟨rfl, b2⟩
      have B2 := Lib.hid (b2.mono B1.out.size); clear b2
      go_wp2_with fail
      go_ret2
      exact ⟨by rw [HMX.out]; rfl, B1.out.trans B2.out⟩
  · have HX := Lib.hid (show latR s l = (⟨#[]⟩, 1) by unfold latR; rw [HER.out, if_pos (by decide)])
    rw [HX.out]
    go_enter Tryz.func18, Tryz.ntmps18
    go_wp2_with fail
    refine HWK.out.mono ?_
    rintro e w1 ⟨sp1, n1, c1, he, _, h2, b1⟩
    rw [HER.out] at he
    subst he
    have B1 := Lib.hid b1; clear b1 h2
    go_wp2_with fail
    go_ret2
    exact ⟨rfl, B1.out⟩
  · have HX := Lib.hid (show latR s l = (⟨#[]⟩, 14) by unfold latR; rw [HER.out, if_pos (by decide)])
    rw [HX.out]
    go_enter Tryz.func18, Tryz.ntmps18
    go_wp2_with fail
    refine HWK.out.mono ?_
    rintro e w1 ⟨sp1, n1, c1, he, _, h2, b1⟩
    rw [HER.out] at he
    subst he
    have B1 := Lib.hid b1; clear b1 h2
    go_wp2_with fail
    go_ret2
    exact ⟨rfl, B1.out⟩
theorem maxS_mem (ks : List KV) : ∀ n, n < ks.length → maxS ks n ∈ ks
  | 0, h => by rw [maxS, List.getD_eq_getElem?_getD, List.getElem?_eq_getElem h]; exact List.getElem_mem _
  | n + 1, h => by
    rw [maxS]
    split
    · rw [List.getD_eq_getElem?_getD, List.getElem?_eq_getElem h]; exact List.getElem_mem _
    · exact maxS_mem ks n (by omega)
end Go.Proofs.YtceeilojcifgeaaGreatDoor
