/-
  StoreKeeps: the walk of the law.
-/
import Derived.Test.YtfehgkpmjnmpeaaDoorGv
import Derived.Test.YtfehgkpmjnmpeaaDoorLawSPu
import Derived.Test.YtfehgkpmjnmpeaaDoorLawSMe
namespace Go.Proofs.YtfehgkpmjnmpeaaDoor
open Go.RowKit Go.Sort

theorem PutR.ok {L : List Bl} {x : Bl} {base : Nat} {e : Ending} {w' : World} (h : PutR L x base e w') (hv : vldP (L.map bp) = true) (hn : x.n ≤ 262144) (hl : L.length ≤ 255) :
    ∃ T sp' m' cap' L', putL L x T ∧ e = .returned (.tuple #[.slice sp' m' cap', .agg (dg x.b), .int .i64 0]) ∧ L'.length = m' ∧ L'.map bp = T.map bp ∧ Sto w' base sp' m' cap' L' := by
  rcases h with ⟨h, _⟩ | ⟨_, h, _⟩ | ⟨_, _, T, hT, ⟨h, _⟩ | ⟨h1, sp, cap, L', m, he, hm, hL, hLT, hs⟩⟩
  · rw [hv] at h; cases h
  · omega
  · have := putL_few hT; omega
  · exact ⟨T, sp, m, cap, L', hT, he, hL, hLT, hs⟩
theorem part_take {ps : List Part} {k : Nat} {q : Part} (h : ps[k]? = some q) : (ps.take (k + 1)).map Part.b = (ps.take k).map Part.b ++ [q.b] := by rw [List.take_add_one, h]; simp
theorem part_at {w : World} {B : Nat} {pa : Option Addr} {np : Nat} {ps : List Part} (h : PartsIn w B pa np ps) {k : Nat} (hk : k < np) : ∃ q pb po, ps[k]? = some q ∧ pa = some ⟨pb, po, none⟩ ∧ pb < B ∧ w.cell? ⟨pb, po + k, none⟩ = some (.slice q.sp q.n q.cap) ∧ Src w B q.sp q.n q.cap q.b := by
  obtain ⟨pb, po, e, hb, hc⟩ := h.cells (by omega)
  have hkl : k < ps.length := by rw [h.len]; exact hk
  exact ⟨ps[k], pb, po, List.getElem?_eq_getElem hkl, e, hb, hc k hkl, h.srcs _ (List.getElem_mem hkl)⟩
set_option maxRecDepth 100000 in
set_option maxHeartbeats 8000000 in
theorem storeKeeps_any (pa : Option Addr) (np ncap : Nat) (ps : List Part) (w : World) (hp : PartsIn w w.heap.size pa np ps) (hnil : ∀ q ∈ ps, q.sp = none → q.cap = 0) (hk : KayIn w) (hk0 : 0 < w.heap.size) :
    Calls Tryd.prog 5 #[.slice pa np ncap] w fun e w' => e = .returned (.bool true) ∧ Below w.heap.size w w' := by
  have HP := Lib.hid hp; have HNIL := Lib.hid hnil; have HK := Lib.hid hk; have HK0 := Lib.hid hk0
  clear hp hnil hk hk0
  have HAW := Lib.hid (fun (wx : World) (hb : Below w.heap.size w wx) => awake5_any wx (HK.out.below hb HK0.out) (Nat.lt_of_lt_of_le HK0.out hb.size))
  by_cases h40 : np ≤ 40
  case neg =>
    have hd : decide ((np : Int) > 40) = true := by simp; omega
    go_enter Tryd.func5, Tryd.ntmps5
    go_wp2_with fail
    go_ret
    exact ⟨rfl, Below.refl _ _⟩
  have hd : decide ((np : Int) > 40) = false := by simp; omega
  go_enter Tryd.func5, Tryd.ntmps5
  go_wp2_with fail
  go_loopw [3, 4] (fun v i wr => ∃ (k m c : Nat) (g : Option Addr) (L : List Bl), v = .slice g m c ∧ i = .int .i64 k ∧ k ≤ np ∧ Hid (Sto wr w.heap.size g m c L ∧ L.length = m ∧ KeepP (L.map bp) ((ps.take k).map Part.b) ∧ (∀ q ∈ ps.take k, q.n ≤ 1000) ∧ Below w.heap.size w wr)) (fun _ i _ => np - (intOf i).toNat)
  case atStart => exact ⟨0, 0, 0, none, [], rfl, rfl, Nat.zero_le _, Sto.nil _ _, rfl, KeepP.nil, fun q hq => (by simp at hq), Below.refl _ _⟩
  case round =>
    obtain ⟨k, m, c, g, L, rfl, rfl, hk, H⟩ := hrel
    have HS := Lib.hid H.out.1; have HLN := Lib.hid H.out.2.1; have HKP := Lib.hid H.out.2.2.1; have HSM := Lib.hid H.out.2.2.2.1; have HB := Lib.hid H.out.2.2.2.2
    have hmk : m ≤ k := by
      have h1 := H.out.2.2.1.few
      rw [List.length_map, H.out.2.1, List.length_map, List.length_take] at h1; omega
    clear H
    by_cases hlt : k < np
    · have hd : decide ((k : Int) < (np : Int)) = true := by simp; omega
      obtain ⟨q, pb, po, hq, rfl, hpb, hcell0, hsrc⟩ := part_at (HP.out.below HB.out (Nat.le_refl _)) hlt
      have hcell : wr.cell? ⟨pb, po + k, none⟩ = some (.slice q.sp q.n q.cap) := hcell0
      have HSRC := Lib.hid (hsrc.more HB.out.size)
      have HQ := Lib.hid hq
      have HQN := Lib.hid (HNIL.out q (List.mem_of_getElem? hq))
      have p1 : (0 : Int) ≤ (k : Int) := by omega
      have p2 : (k : Int) < (np : Int) := by omega
      clear hq hsrc hcell0
      by_cases hbig : q.n ≤ 1000
      case neg =>
        have hd2 : decide ((q.n : Int) > 1000) = true := by simp; omega
        go_wp2_with fail
        go_ret
        exact ⟨rfl, HB.out⟩
      have hd2 : decide ((q.n : Int) > 1000) = false := by simp; omega
      have HSM1 : Hid (∀ z ∈ ps.take (k + 1), z.n ≤ 1000) := fun z hz => by
        rw [List.take_add_one, HQ.out] at hz
        rcases List.mem_append.1 hz with hz | hz
        · exact HSM.out z hz
        · have : z = q := by simpa using hz
          rw [this]; exact hbig
      go_wp2_with fail
      refine (put_any g m c L q.sp q.n q.cap q.b wr (HS.out.bls HLN.out) HS.out.own.nilcap (by omega) HSRC.out HQN.out (HK.out.below HB.out HK0.out) (Nat.lt_of_lt_of_le HK0.out HB.out.size)).mono ?_
      rintro e w1 ⟨hput, b1⟩
      obtain ⟨T, sp1, m1, c1, L1, hT, rfl, hL1, hLT, hs1⟩ := hput.ok (HKP.out.good.vld (by rw [List.length_map, HLN.out]; omega)) (show q.n ≤ 262144 by omega) (by rw [HLN.out]; omega)
      have HKP1 : Hid (KeepP (L1.map bp) ((ps.take (k + 1)).map Part.b)) := by
        show KeepP _ _
        rw [hLT, part_take HQ.out]
        exact HKP.out.put hT rfl (by show q.b.length ≤ 262144; have := HSRC.out.len; omega)
      have HB1 := Lib.hid (HB.out.trans (b1.mono HB.out.size))
      have HS1 := Lib.hid (show Sto w1 w.heap.size sp1 m1 c1 L1 from ⟨hs1.own.base HB.out.size, fun x hx => (hs1.dat x hx).base HB.out.size⟩)
      have HL1 := Lib.hid hL1
      have HZ1 := Lib.hid (heap_alloc_new w1 (.cells (Array.replicate 32 (Value.int .u8 0)) 32))
      clear hput hT hL1 hLT hs1 b1 hcell
      go_wp2_with (refine wpList_store_row rfl 32 _ _ rfl w1.heap.size _ rfl rfl 32 _ HZ1.out (dg_info _) (by rw [dg_size]; rfl) (dg_one _) ?_; rw [setRow_new]; generalize hw2 : World.alloc w1 _ = w2; have hb2 : Below w1.heap.size w1 w2 := (by rw [← hw2]; exact (Below.refl _ _).alloc (Nat.le_refl _) _); have HB2 := Lib.hid (HB1.out.trans (hb2.mono HB1.out.size)); have HS2 := Lib.hid (HS1.out.below hb2); clear hw2 hb2)
      go_roundw
      case rel => exact ⟨k + 1, m1, c1, sp1, L1, rfl, by go_num, hlt, HS2.out, HL1.out, HKP1.out, HSM1.out, HB2.out⟩
      case measure => simp [intOf]; omega
    · obtain rfl : k = np := by omega
      have hd : decide ((k : Int) < (k : Int)) = false := by simp
      have HKP2 : Hid (KeepP (L.map bp) (ps.map Part.b)) := by have := HKP.out; rw [List.take_of_length_le (by rw [HP.out.len]; exact Nat.le_refl _)] at this; exact this
      have HSM2 : Hid (∀ q ∈ ps, q.n ≤ 1000) := by have := HSM.out; rw [List.take_of_length_le (by rw [HP.out.len]; exact Nat.le_refl _)] at this; exact this
      clear HKP HSM
      obtain ⟨w8, hw8⟩ : ∃ wx, wx = wr := ⟨_, rfl⟩
      subst hw8
      have hkk : k ≤ 40 := h40
      generalize hnk : k = np at *
      clear hnk
      go_wp2_with fail
      go_loopw [8] (fun i wr => ∃ k : Nat, i = .int .i64 k ∧ k ≤ np ∧ Hid (Below w8.heap.size w8 wr ∧ NoCol ((ps.take k).map Part.b))) (fun i _ => np - (intOf i).toNat)
      case atStart => exact ⟨0, rfl, Nat.zero_le _, Below.refl _ _, by rw [List.take_zero]; exact NoCol.nil⟩
      case round =>
        obtain ⟨k, rfl, hk, H⟩ := hrel
        have HE := Lib.hid H.out.1; have HNC := Lib.hid H.out.2
        clear H
        have HBW := Lib.hid (HB.out.trans (HE.out.mono HB.out.size))
        by_cases hlt : k < np
        · have hd : decide ((k : Int) < (np : Int)) = true := by simp; omega
          obtain ⟨q, pb, po, hq, rfl, hpb, hcell0, hsrc⟩ := part_at (HP.out.below HBW.out (Nat.le_refl _)) hlt
          have HQ := Lib.hid hq
          have HC1 := Lib.hid hcell0; have HSR1 := Lib.hid (hsrc.more HBW.out.size); have HPB := Lib.hid (Nat.lt_of_lt_of_le hpb HBW.out.size)
          have HQN := Lib.hid (HNIL.out q (List.mem_of_getElem? hq))
          have hqs := HSM2.out q (List.mem_of_getElem? hq)
          clear hq hcell0 hsrc hpb
          obtain ⟨wo, hwo⟩ : ∃ wx, wx = wr := ⟨_, rfl⟩
          subst hwo
          go_wp2_with fail
          go_loopw [9] (fun i wr => ∃ j : Nat, i = .int .i64 j ∧ j ≤ k ∧ Hid (Below wo.heap.size wo wr ∧ ∀ z ∈ (ps.take j).map Part.b, shb q.b = shb z → q.b = z)) (fun i _ => k - (intOf i).toNat)
          case atStart => exact ⟨0, rfl, Nat.zero_le _, Below.refl _ _, fun z hz => (by simp at hz)⟩
          case round =>
            obtain ⟨j, rfl, hj, H⟩ := hrel
            have HEI := Lib.hid H.out.1; have HNI := Lib.hid H.out.2
            clear H
            have HBI := Lib.hid (HBW.out.trans (HEI.out.mono HBW.out.size))
            by_cases hjk : j < k
            · have hd2 : decide ((j : Int) < (k : Int)) = true := by simp; omega
              obtain ⟨q2, pb2, po2, hq2, he2, hpb2, hcell2, hsrc2⟩ := part_at (HP.out.below HBI.out (Nat.le_refl _)) (show j < np by omega)
              injection he2 with he2
              injection he2 with e1 e2 e3
              subst e1 e2
              have HQ2 := Lib.hid hq2
              have HQN2 := Lib.hid (HNIL.out q2 (List.mem_of_getElem? hq2))
              have hqs2 := HSM2.out q2 (List.mem_of_getElem? hq2)
              have HD1 := Lib.hid ((HC1.out : wo.cell? ⟨pb, po + k, none⟩ = some (.slice q.sp q.n q.cap)))
              have HX1 : Hid (∀ w', Below wr.heap.size wr w' → w'.cell? ⟨pb, po + k, none⟩ = some (.slice q.sp q.n q.cap)) := fun w' hb => (hb.cell (p := ⟨pb, po + k, none⟩) (Nat.lt_of_lt_of_le HPB.out HEI.out.size)).trans ((HEI.out.cell (p := ⟨pb, po + k, none⟩) HPB.out).trans HC1.out)
              have HX2 : Hid (∀ w', Below wr.heap.size wr w' → w'.cell? ⟨pb, po + j, none⟩ = some (.slice q2.sp q2.n q2.cap)) := fun w' hb => (hb.cell (p := ⟨pb, po + j, none⟩) (Nat.lt_of_lt_of_le HPB.out HEI.out.size)).trans hcell2
              have HY1 : Hid (∀ w', Below wr.heap.size wr w' → Src w' w'.heap.size q.sp q.n q.cap q.b) := fun w' hb => ((HSR1.out.below (HEI.out.trans (hb.mono HEI.out.size)) (Nat.le_refl _)).more (Nat.le_trans HEI.out.size hb.size))
              have HY2 : Hid (∀ w', Below wr.heap.size wr w' → Src w' w'.heap.size q2.sp q2.n q2.cap q2.b) := fun w' hb => ((hsrc2.more HBI.out.size).below hb (Nat.le_refl _)).more hb.size
              have HU := Lib.hid (uOf_inj HSR1.out.byt hsrc2.byt)
              obtain ⟨u1, hu1⟩ : ∃ u : ByteArray, ⟨(uOf q.b).toArray⟩ = u := ⟨_, rfl⟩
              obtain ⟨u2, hu2⟩ : ∃ u : ByteArray, ⟨(uOf q2.b).toArray⟩ = u := ⟨_, rfl⟩
              have HV1 : Hid (∀ w', Below wr.heap.size wr w' → (convert 35 9 (.slice q.sp q.n q.cap)).run Tryd.prog w' = .ok (.string u1) w') := fun w' hb => by rw [← hu1]; exact conv_src (HY1.out w' hb) _
              have HV2 : Hid (∀ w', Below wr.heap.size wr w' → (convert 35 9 (.slice q2.sp q2.n q2.cap)).run Tryd.prog w' = .ok (.string u2) w') := fun w' hb => by rw [← hu2]; exact conv_src (HY2.out w' hb) _
              rw [hu1, hu2] at HU
              have HF1 : Hid (∀ w', Below wr.heap.size wr w' → Calls Tryd.prog 22 #[.slice q.sp q.n q.cap] w' (SumRes w' q.b)) := fun w' hb => refSum_any q.sp q.n q.cap q.b w' (HY1.out w' hb) HQN.out (by omega)
              have HF2 : Hid (∀ w', Below wr.heap.size wr w' → Calls Tryd.prog 22 #[.slice q2.sp q2.n q2.cap] w' (SumRes w' q2.b)) := fun w' hb => refSum_any q2.sp q2.n q2.cap q2.b w' (HY2.out w' hb) HQN2.out (by omega)
              have HEQ := Lib.hid (fun W => eqlD (shb q.b) (shb q2.b) (shb_len _) (shb_len _) W)
              have HSTEP : Hid ((shb q.b = shb q2.b → q.b = q2.b) → ∀ z ∈ (ps.take (j + 1)).map Part.b, shb q.b = shb z → q.b = z) := fun h z hz => by
                rw [part_take HQ2.out] at hz
                rcases List.mem_append.1 hz with hz | hz
                · exact HNI.out z hz
                · rw [List.mem_singleton.1 hz]; exact h
              have p1 : (0 : Int) ≤ (k : Int) := by omega
              have p2 : (k : Int) < (np : Int) := by omega
              have p3 : (0 : Int) ≤ (j : Int) := by omega
              have p4 : (j : Int) < (np : Int) := by omega
              clear hq2 hcell2 hsrc2 hu1 hu2
              by_cases hsh : shb q.b = shb q2.b
              · have he : ∀ W, (binOp .eql 32 (.agg (dg q.b)) (.agg (dg q2.b))).run Tryd.prog W = .ok (.bool true) W := fun W => by have := HEQ.out W; rw [decide_eq_true hsh] at this; exact this
                by_cases hbb : q.b = q2.b
                · have hue := HU.out.2 hbb
                  subst hue
                  have HFIN := Lib.hid (HSTEP.out (fun _ => hbb))
                  clear hsh hbb
                  go_wp2_with fail
                  have HSD := Lib.hid ((Below.refl wr.heap.size wr).drew)
                  refine wp_region_held_drew (S := fun w' => Below wr.heap.size wr w') (by kernel_rfl) ((Below.refl wr.heap.size wr).drew) (fun hHeld => ?_)
                  refine wpAnyH_take (i := 0) (oi := _) (v := ?v0n13) rfl (by kernel_rfl) (by kernel_rfl) (by kernel_rfl) (fun _ _ _ h => h) (Or.inl ⟨by rfl, ?hy0n13⟩) (by assumption) ?rest0n13
                  case hy0n13 =>
                    intro w' hSw
                    go_simp
                    try with_reducible rfl
                  try simp only [Act.put, List.getElem_toArray, List.getElem_cons_succ, List.getElem_cons_zero, List.setIfInBounds_toArray, List.set_cons_zero, List.set_cons_succ]
                  refine wpAnyH_take (i := 1) (oi := _) (v := ?v1n14) rfl (by kernel_rfl) (by kernel_rfl) (by kernel_rfl) (fun _ _ _ h => h) (Or.inl ⟨by rfl, ?hy1n14⟩) (by assumption) ?rest1n14
                  case hy1n14 =>
                    intro w' hSw
                    go_simp
                    try with_reducible rfl
                  try simp only [Act.put, List.getElem_toArray, List.getElem_cons_succ, List.getElem_cons_zero, List.setIfInBounds_toArray, List.set_cons_zero, List.set_cons_succ]
                  refine wpAnyH_take (i := 2) (oi := _) (v := ?v2n15) rfl (by kernel_rfl) (by kernel_rfl) (by kernel_rfl) (fun _ _ _ h => h) (Or.inl ⟨by rfl, ?hy2n15⟩) (by assumption) ?rest2n15
                  case hy2n15 =>
                    intro w' hSw
                    go_simp
                    try with_reducible rfl
                  try simp only [Act.put, List.getElem_toArray, List.getElem_cons_succ, List.getElem_cons_zero, List.setIfInBounds_toArray, List.set_cons_zero, List.set_cons_succ]
                  refine wpAnyH_take (i := 3) (oi := _) (v := ?v3n16) rfl (by kernel_rfl) (by kernel_rfl) (by kernel_rfl) (fun _ _ _ h => h) (Or.inl ⟨by rfl, ?hy3n16⟩) (by assumption) ?rest3n16
                  case hy3n16 =>
                    intro w' hSw
                    have h1 := HX1.out w' hSw
                    go_simp
                    try with_reducible rfl
                  try simp only [Act.put, List.getElem_toArray, List.getElem_cons_succ, List.getElem_cons_zero, List.setIfInBounds_toArray, List.set_cons_zero, List.set_cons_succ]
                  refine wpAnyH_take (i := 5) (oi := _) (v := ?v5n17) rfl (by kernel_rfl) (by kernel_rfl) (by kernel_rfl) (fun _ _ _ h => h) (Or.inl ⟨by rfl, ?hy5n17⟩) (by assumption) ?rest5n17
                  case hy5n17 =>
                    intro w' hSw
                    go_simp
                    try with_reducible rfl
                  try simp only [Act.put, List.getElem_toArray, List.getElem_cons_succ, List.getElem_cons_zero, List.setIfInBounds_toArray, List.set_cons_zero, List.set_cons_succ]
                  refine wpAnyH_take (i := 6) (oi := _) (v := ?v6n18) rfl (by kernel_rfl) (by kernel_rfl) (by kernel_rfl) (fun _ _ _ h => h) (Or.inl ⟨by rfl, ?hy6n18⟩) (by assumption) ?rest6n18
                  case hy6n18 =>
                    intro w' hSw
                    go_simp
                    try with_reducible rfl
                  try simp only [Act.put, List.getElem_toArray, List.getElem_cons_succ, List.getElem_cons_zero, List.setIfInBounds_toArray, List.set_cons_zero, List.set_cons_succ]
                  refine wpAnyH_take (i := 7) (oi := _) (v := ?v7n19) rfl (by kernel_rfl) (by kernel_rfl) (by kernel_rfl) (fun _ _ _ h => h) (Or.inl ⟨by rfl, ?hy7n19⟩) (by assumption) ?rest7n19
                  case hy7n19 =>
                    intro w' hSw
                    go_simp
                    try with_reducible rfl
                  try simp only [Act.put, List.getElem_toArray, List.getElem_cons_succ, List.getElem_cons_zero, List.setIfInBounds_toArray, List.set_cons_zero, List.set_cons_succ]
                  refine wpAnyH_take (i := 8) (oi := _) (v := ?v8n20) rfl (by kernel_rfl) (by kernel_rfl) (by kernel_rfl) (fun _ _ _ h => h) (Or.inl ⟨by rfl, ?hy8n20⟩) (by assumption) ?rest8n20
                  case hy8n20 =>
                    intro w' hSw
                    have h1 := HX2.out w' hSw
                    go_simp
                    try with_reducible rfl
                  try simp only [Act.put, List.getElem_toArray, List.getElem_cons_succ, List.getElem_cons_zero, List.setIfInBounds_toArray, List.set_cons_zero, List.set_cons_succ]
                  have hSb := HSD.out
                  refine wpAnyH_ready (rs := [4]) (by kernel_rfl) (by simp) (AllReadyH.cons (o := _) rfl (fun K hK => ?_) AllReadyH.nil)
                  go_simp
                  refine (HF1.out _ hSb).mono ?_
                  rintro e wz ⟨rfl, bz⟩
                  have hbz := hSb.trans (bz.mono hSb.size)
                  go_wp2_with fail
                  refine hK.out _ _ hbz (fun hHeld => ?_)
                  clear hK K
                  try simp only [Act.put, List.getElem_toArray, List.getElem_cons_succ, List.getElem_cons_zero, List.setIfInBounds_toArray, List.set_cons_zero, List.set_cons_succ]
                  clear hSb
                  have hSb := hbz
                  clear hbz
                  refine wpAnyH_ready (rs := [9]) (by kernel_rfl) (by simp) (AllReadyH.cons (o := _) rfl (fun K hK => ?_) AllReadyH.nil)
                  go_simp
                  refine (HF2.out _ hSb).mono ?_
                  rintro e wz ⟨rfl, bz⟩
                  have hbz := hSb.trans (bz.mono hSb.size)
                  go_wp2_with fail
                  refine hK.out _ _ hbz (fun hHeld => ?_)
                  clear hK K
                  try simp only [Act.put, List.getElem_toArray, List.getElem_cons_succ, List.getElem_cons_zero, List.setIfInBounds_toArray, List.set_cons_zero, List.set_cons_succ]
                  refine wpAnyH_take (i := 10) (oi := _) (v := ?v10n21) rfl (by kernel_rfl) (by kernel_rfl) (by kernel_rfl) (fun _ _ _ h => h) (Or.inl ⟨by rfl, ?hy10n21⟩) (by assumption) ?rest10n21
                  case hy10n21 =>
                    intro w' hSw
                    go_simp
                    try with_reducible rfl
                  try simp only [Act.put, List.getElem_toArray, List.getElem_cons_succ, List.getElem_cons_zero, List.setIfInBounds_toArray, List.set_cons_zero, List.set_cons_succ]
                  refine wpAnyH_take (i := 11) (oi := _) (v := ?v11n22) rfl (by kernel_rfl) (by kernel_rfl) (by kernel_rfl) (fun _ _ _ h => h) (Or.inl ⟨by rfl, ?hy11n22⟩) (by assumption) ?rest11n22
                  case hy11n22 =>
                    intro w' hSw
                    go_simp
                    try with_reducible rfl
                  try simp only [Act.put, List.getElem_toArray, List.getElem_cons_succ, List.getElem_cons_zero, List.setIfInBounds_toArray, List.set_cons_zero, List.set_cons_succ]
                  refine wpAnyH_take (i := 12) (oi := _) (v := ?v12n23) rfl (by kernel_rfl) (by kernel_rfl) (by kernel_rfl) (fun _ _ _ h => h) (Or.inl ⟨by rfl, ?hy12n23⟩) (by assumption) ?rest12n23
                  case hy12n23 =>
                    intro w' hSw
                    go_simp
                    try with_reducible rfl
                  try simp only [Act.put, List.getElem_toArray, List.getElem_cons_succ, List.getElem_cons_zero, List.setIfInBounds_toArray, List.set_cons_zero, List.set_cons_succ]
                  refine wpAnyH_take (i := 13) (oi := _) (v := ?v13n24) rfl (by kernel_rfl) (by kernel_rfl) (by kernel_rfl) (fun _ _ _ h => h) (Or.inl ⟨by rfl, ?hy13n24⟩) (by assumption) ?rest13n24
                  case hy13n24 =>
                    intro w' hSw
                    go_simp
                    try with_reducible rfl
                  try simp only [Act.put, List.getElem_toArray, List.getElem_cons_succ, List.getElem_cons_zero, List.setIfInBounds_toArray, List.set_cons_zero, List.set_cons_succ]
                  refine wpAnyH_take (i := 14) (oi := _) (v := ?v14n25) rfl (by kernel_rfl) (by kernel_rfl) (by kernel_rfl) (fun _ _ _ h => h) (Or.inl ⟨by rfl, ?hy14n25⟩) (by assumption) ?rest14n25
                  case hy14n25 =>
                    intro w' hSw
                    go_simp
                    try with_reducible rfl
                  try simp only [Act.put, List.getElem_toArray, List.getElem_cons_succ, List.getElem_cons_zero, List.setIfInBounds_toArray, List.set_cons_zero, List.set_cons_succ]
                  refine wpAnyH_take (i := 15) (oi := _) (v := ?v15n26) rfl (by kernel_rfl) (by kernel_rfl) (by kernel_rfl) (fun _ _ _ h => h) (Or.inl ⟨by rfl, ?hy15n26⟩) (by assumption) ?rest15n26
                  case hy15n26 =>
                    intro w' hSw
                    have h1 := HX1.out w' hSw
                    go_simp
                    try with_reducible rfl
                  try simp only [Act.put, List.getElem_toArray, List.getElem_cons_succ, List.getElem_cons_zero, List.setIfInBounds_toArray, List.set_cons_zero, List.set_cons_succ]
                  refine wpAnyH_take (i := 16) (oi := _) (v := ?v16n27) rfl (by kernel_rfl) (by kernel_rfl) (by kernel_rfl) (fun _ _ _ h => h) (Or.inl ⟨by rfl, ?hy16n27⟩) (by assumption) ?rest16n27
                  case hy16n27 =>
                    intro w' hSw
                    have h1 := HV1.out w' hSw
                    go_simp
                    try with_reducible rfl
                  try simp only [Act.put, List.getElem_toArray, List.getElem_cons_succ, List.getElem_cons_zero, List.setIfInBounds_toArray, List.set_cons_zero, List.set_cons_succ]
                  refine wpAnyH_take (i := 17) (oi := _) (v := ?v17n28) rfl (by kernel_rfl) (by kernel_rfl) (by kernel_rfl) (fun _ _ _ h => h) (Or.inl ⟨by rfl, ?hy17n28⟩) (by assumption) ?rest17n28
                  case hy17n28 =>
                    intro w' hSw
                    go_simp
                    try with_reducible rfl
                  try simp only [Act.put, List.getElem_toArray, List.getElem_cons_succ, List.getElem_cons_zero, List.setIfInBounds_toArray, List.set_cons_zero, List.set_cons_succ]
                  refine wpAnyH_take (i := 18) (oi := _) (v := ?v18n29) rfl (by kernel_rfl) (by kernel_rfl) (by kernel_rfl) (fun _ _ _ h => h) (Or.inl ⟨by rfl, ?hy18n29⟩) (by assumption) ?rest18n29
                  case hy18n29 =>
                    intro w' hSw
                    go_simp
                    try with_reducible rfl
                  try simp only [Act.put, List.getElem_toArray, List.getElem_cons_succ, List.getElem_cons_zero, List.setIfInBounds_toArray, List.set_cons_zero, List.set_cons_succ]
                  refine wpAnyH_take (i := 19) (oi := _) (v := ?v19n30) rfl (by kernel_rfl) (by kernel_rfl) (by kernel_rfl) (fun _ _ _ h => h) (Or.inl ⟨by rfl, ?hy19n30⟩) (by assumption) ?rest19n30
                  case hy19n30 =>
                    intro w' hSw
                    go_simp
                    try with_reducible rfl
                  try simp only [Act.put, List.getElem_toArray, List.getElem_cons_succ, List.getElem_cons_zero, List.setIfInBounds_toArray, List.set_cons_zero, List.set_cons_succ]
                  refine wpAnyH_take (i := 20) (oi := _) (v := ?v20n31) rfl (by kernel_rfl) (by kernel_rfl) (by kernel_rfl) (fun _ _ _ h => h) (Or.inl ⟨by rfl, ?hy20n31⟩) (by assumption) ?rest20n31
                  case hy20n31 =>
                    intro w' hSw
                    have h1 := HX2.out w' hSw
                    go_simp
                    try with_reducible rfl
                  try simp only [Act.put, List.getElem_toArray, List.getElem_cons_succ, List.getElem_cons_zero, List.setIfInBounds_toArray, List.set_cons_zero, List.set_cons_succ]
                  refine wpAnyH_take (i := 21) (oi := _) (v := ?v21n32) rfl (by kernel_rfl) (by kernel_rfl) (by kernel_rfl) (fun _ _ _ h => h) (Or.inl ⟨by rfl, ?hy21n32⟩) (by assumption) ?rest21n32
                  case hy21n32 =>
                    intro w' hSw
                    have h1 := HV2.out w' hSw
                    go_simp
                    try with_reducible rfl
                  try simp only [Act.put, List.getElem_toArray, List.getElem_cons_succ, List.getElem_cons_zero, List.setIfInBounds_toArray, List.set_cons_zero, List.set_cons_succ]
                  refine wpAnyH_take (i := 22) (oi := _) (v := ?v22n33) rfl (by kernel_rfl) (by kernel_rfl) (by kernel_rfl) (fun _ _ _ h => h) (Or.inl ⟨by rfl, ?hy22n33⟩) (by assumption) ?rest22n33
                  case hy22n33 =>
                    intro w' hSw
                    go_simp
                    try with_reducible rfl
                  try simp only [Act.put, List.getElem_toArray, List.getElem_cons_succ, List.getElem_cons_zero, List.setIfInBounds_toArray, List.set_cons_zero, List.set_cons_succ]
                  refine wpAnyH_take (i := 23) (oi := _) (v := ?v23n34) rfl (by kernel_rfl) (by kernel_rfl) (by kernel_rfl) (fun _ _ _ h => h) (Or.inl ⟨by rfl, ?hy23n34⟩) (by assumption) ?rest23n34
                  case hy23n34 =>
                    intro w' hSw
                    go_simp
                    try with_reducible rfl
                  try simp only [Act.put, List.getElem_toArray, List.getElem_cons_succ, List.getElem_cons_zero, List.setIfInBounds_toArray, List.set_cons_zero, List.set_cons_succ]
                  refine wpAnyH_done (by kernel_rfl) ?_ _
                  clear hHeld
                  go_wp2_with fail
                  go_roundw
                  case rel => exact ⟨j + 1, by go_num, hjk, HEI.out.trans (hbz.mono HEI.out.size), HFIN.out⟩
                  case measure => simp [intOf]; omega
                · have hue : ¬ u1 = u2 := fun e => hbb (HU.out.1 e)
                  have hue1 : (u1.toList == u2.toList) = false := by
                    rw [beq_eq_false_iff_ne]
                    intro e
                    rw [ByteArray.toList_eq, ByteArray.toList_eq] at e
                    exact hue (ByteArray.ext (Array.toList_inj.1 e))
                  have hue2 : (u1.toList != u2.toList) = true := by rw [bne, hue1]; rfl
                  clear hsh hbb
                  go_wp2_with fail
                  have HSD := Lib.hid ((Below.refl wr.heap.size wr).drew)
                  refine wp_region_held_drew (S := fun w' => Below wr.heap.size wr w') (by kernel_rfl) ((Below.refl wr.heap.size wr).drew) (fun hHeld => ?_)
                  refine wpAnyH_take (i := 0) (oi := _) (v := ?v0n35) rfl (by kernel_rfl) (by kernel_rfl) (by kernel_rfl) (fun _ _ _ h => h) (Or.inl ⟨by rfl, ?hy0n35⟩) (by assumption) ?rest0n35
                  case hy0n35 =>
                    intro w' hSw
                    go_simp
                    try with_reducible rfl
                  try simp only [Act.put, List.getElem_toArray, List.getElem_cons_succ, List.getElem_cons_zero, List.setIfInBounds_toArray, List.set_cons_zero, List.set_cons_succ]
                  refine wpAnyH_take (i := 1) (oi := _) (v := ?v1n36) rfl (by kernel_rfl) (by kernel_rfl) (by kernel_rfl) (fun _ _ _ h => h) (Or.inl ⟨by rfl, ?hy1n36⟩) (by assumption) ?rest1n36
                  case hy1n36 =>
                    intro w' hSw
                    go_simp
                    try with_reducible rfl
                  try simp only [Act.put, List.getElem_toArray, List.getElem_cons_succ, List.getElem_cons_zero, List.setIfInBounds_toArray, List.set_cons_zero, List.set_cons_succ]
                  refine wpAnyH_take (i := 2) (oi := _) (v := ?v2n37) rfl (by kernel_rfl) (by kernel_rfl) (by kernel_rfl) (fun _ _ _ h => h) (Or.inl ⟨by rfl, ?hy2n37⟩) (by assumption) ?rest2n37
                  case hy2n37 =>
                    intro w' hSw
                    go_simp
                    try with_reducible rfl
                  try simp only [Act.put, List.getElem_toArray, List.getElem_cons_succ, List.getElem_cons_zero, List.setIfInBounds_toArray, List.set_cons_zero, List.set_cons_succ]
                  refine wpAnyH_take (i := 3) (oi := _) (v := ?v3n38) rfl (by kernel_rfl) (by kernel_rfl) (by kernel_rfl) (fun _ _ _ h => h) (Or.inl ⟨by rfl, ?hy3n38⟩) (by assumption) ?rest3n38
                  case hy3n38 =>
                    intro w' hSw
                    have h1 := HX1.out w' hSw
                    go_simp
                    try with_reducible rfl
                  try simp only [Act.put, List.getElem_toArray, List.getElem_cons_succ, List.getElem_cons_zero, List.setIfInBounds_toArray, List.set_cons_zero, List.set_cons_succ]
                  refine wpAnyH_take (i := 5) (oi := _) (v := ?v5n39) rfl (by kernel_rfl) (by kernel_rfl) (by kernel_rfl) (fun _ _ _ h => h) (Or.inl ⟨by rfl, ?hy5n39⟩) (by assumption) ?rest5n39
                  case hy5n39 =>
                    intro w' hSw
                    go_simp
                    try with_reducible rfl
                  try simp only [Act.put, List.getElem_toArray, List.getElem_cons_succ, List.getElem_cons_zero, List.setIfInBounds_toArray, List.set_cons_zero, List.set_cons_succ]
                  refine wpAnyH_take (i := 6) (oi := _) (v := ?v6n40) rfl (by kernel_rfl) (by kernel_rfl) (by kernel_rfl) (fun _ _ _ h => h) (Or.inl ⟨by rfl, ?hy6n40⟩) (by assumption) ?rest6n40
                  case hy6n40 =>
                    intro w' hSw
                    go_simp
                    try with_reducible rfl
                  try simp only [Act.put, List.getElem_toArray, List.getElem_cons_succ, List.getElem_cons_zero, List.setIfInBounds_toArray, List.set_cons_zero, List.set_cons_succ]
                  refine wpAnyH_take (i := 7) (oi := _) (v := ?v7n41) rfl (by kernel_rfl) (by kernel_rfl) (by kernel_rfl) (fun _ _ _ h => h) (Or.inl ⟨by rfl, ?hy7n41⟩) (by assumption) ?rest7n41
                  case hy7n41 =>
                    intro w' hSw
                    go_simp
                    try with_reducible rfl
                  try simp only [Act.put, List.getElem_toArray, List.getElem_cons_succ, List.getElem_cons_zero, List.setIfInBounds_toArray, List.set_cons_zero, List.set_cons_succ]
                  refine wpAnyH_take (i := 8) (oi := _) (v := ?v8n42) rfl (by kernel_rfl) (by kernel_rfl) (by kernel_rfl) (fun _ _ _ h => h) (Or.inl ⟨by rfl, ?hy8n42⟩) (by assumption) ?rest8n42
                  case hy8n42 =>
                    intro w' hSw
                    have h1 := HX2.out w' hSw
                    go_simp
                    try with_reducible rfl
                  try simp only [Act.put, List.getElem_toArray, List.getElem_cons_succ, List.getElem_cons_zero, List.setIfInBounds_toArray, List.set_cons_zero, List.set_cons_succ]
                  have hSb := HSD.out
                  refine wpAnyH_ready (rs := [4]) (by kernel_rfl) (by simp) (AllReadyH.cons (o := _) rfl (fun K hK => ?_) AllReadyH.nil)
                  go_simp
                  refine (HF1.out _ hSb).mono ?_
                  rintro e wz ⟨rfl, bz⟩
                  have hbz := hSb.trans (bz.mono hSb.size)
                  go_wp2_with fail
                  refine hK.out _ _ hbz (fun hHeld => ?_)
                  clear hK K
                  try simp only [Act.put, List.getElem_toArray, List.getElem_cons_succ, List.getElem_cons_zero, List.setIfInBounds_toArray, List.set_cons_zero, List.set_cons_succ]
                  clear hSb
                  have hSb := hbz
                  clear hbz
                  refine wpAnyH_ready (rs := [9]) (by kernel_rfl) (by simp) (AllReadyH.cons (o := _) rfl (fun K hK => ?_) AllReadyH.nil)
                  go_simp
                  refine (HF2.out _ hSb).mono ?_
                  rintro e wz ⟨rfl, bz⟩
                  have hbz := hSb.trans (bz.mono hSb.size)
                  go_wp2_with fail
                  refine hK.out _ _ hbz (fun hHeld => ?_)
                  clear hK K
                  try simp only [Act.put, List.getElem_toArray, List.getElem_cons_succ, List.getElem_cons_zero, List.setIfInBounds_toArray, List.set_cons_zero, List.set_cons_succ]
                  refine wpAnyH_take (i := 10) (oi := _) (v := ?v10n43) rfl (by kernel_rfl) (by kernel_rfl) (by kernel_rfl) (fun _ _ _ h => h) (Or.inl ⟨by rfl, ?hy10n43⟩) (by assumption) ?rest10n43
                  case hy10n43 =>
                    intro w' hSw
                    go_simp
                    try with_reducible rfl
                  try simp only [Act.put, List.getElem_toArray, List.getElem_cons_succ, List.getElem_cons_zero, List.setIfInBounds_toArray, List.set_cons_zero, List.set_cons_succ]
                  refine wpAnyH_take (i := 11) (oi := _) (v := ?v11n44) rfl (by kernel_rfl) (by kernel_rfl) (by kernel_rfl) (fun _ _ _ h => h) (Or.inl ⟨by rfl, ?hy11n44⟩) (by assumption) ?rest11n44
                  case hy11n44 =>
                    intro w' hSw
                    go_simp
                    try with_reducible rfl
                  try simp only [Act.put, List.getElem_toArray, List.getElem_cons_succ, List.getElem_cons_zero, List.setIfInBounds_toArray, List.set_cons_zero, List.set_cons_succ]
                  refine wpAnyH_take (i := 12) (oi := _) (v := ?v12n45) rfl (by kernel_rfl) (by kernel_rfl) (by kernel_rfl) (fun _ _ _ h => h) (Or.inl ⟨by rfl, ?hy12n45⟩) (by assumption) ?rest12n45
                  case hy12n45 =>
                    intro w' hSw
                    go_simp
                    try with_reducible rfl
                  try simp only [Act.put, List.getElem_toArray, List.getElem_cons_succ, List.getElem_cons_zero, List.setIfInBounds_toArray, List.set_cons_zero, List.set_cons_succ]
                  refine wpAnyH_take (i := 13) (oi := _) (v := ?v13n46) rfl (by kernel_rfl) (by kernel_rfl) (by kernel_rfl) (fun _ _ _ h => h) (Or.inl ⟨by rfl, ?hy13n46⟩) (by assumption) ?rest13n46
                  case hy13n46 =>
                    intro w' hSw
                    go_simp
                    try with_reducible rfl
                  try simp only [Act.put, List.getElem_toArray, List.getElem_cons_succ, List.getElem_cons_zero, List.setIfInBounds_toArray, List.set_cons_zero, List.set_cons_succ]
                  refine wpAnyH_take (i := 14) (oi := _) (v := ?v14n47) rfl (by kernel_rfl) (by kernel_rfl) (by kernel_rfl) (fun _ _ _ h => h) (Or.inl ⟨by rfl, ?hy14n47⟩) (by assumption) ?rest14n47
                  case hy14n47 =>
                    intro w' hSw
                    go_simp
                    try with_reducible rfl
                  try simp only [Act.put, List.getElem_toArray, List.getElem_cons_succ, List.getElem_cons_zero, List.setIfInBounds_toArray, List.set_cons_zero, List.set_cons_succ]
                  refine wpAnyH_take (i := 15) (oi := _) (v := ?v15n48) rfl (by kernel_rfl) (by kernel_rfl) (by kernel_rfl) (fun _ _ _ h => h) (Or.inl ⟨by rfl, ?hy15n48⟩) (by assumption) ?rest15n48
                  case hy15n48 =>
                    intro w' hSw
                    have h1 := HX1.out w' hSw
                    go_simp
                    try with_reducible rfl
                  try simp only [Act.put, List.getElem_toArray, List.getElem_cons_succ, List.getElem_cons_zero, List.setIfInBounds_toArray, List.set_cons_zero, List.set_cons_succ]
                  refine wpAnyH_take (i := 16) (oi := _) (v := ?v16n49) rfl (by kernel_rfl) (by kernel_rfl) (by kernel_rfl) (fun _ _ _ h => h) (Or.inl ⟨by rfl, ?hy16n49⟩) (by assumption) ?rest16n49
                  case hy16n49 =>
                    intro w' hSw
                    have h1 := HV1.out w' hSw
                    go_simp
                    try with_reducible rfl
                  try simp only [Act.put, List.getElem_toArray, List.getElem_cons_succ, List.getElem_cons_zero, List.setIfInBounds_toArray, List.set_cons_zero, List.set_cons_succ]
                  refine wpAnyH_take (i := 17) (oi := _) (v := ?v17n50) rfl (by kernel_rfl) (by kernel_rfl) (by kernel_rfl) (fun _ _ _ h => h) (Or.inl ⟨by rfl, ?hy17n50⟩) (by assumption) ?rest17n50
                  case hy17n50 =>
                    intro w' hSw
                    go_simp
                    try with_reducible rfl
                  try simp only [Act.put, List.getElem_toArray, List.getElem_cons_succ, List.getElem_cons_zero, List.setIfInBounds_toArray, List.set_cons_zero, List.set_cons_succ]
                  refine wpAnyH_take (i := 18) (oi := _) (v := ?v18n51) rfl (by kernel_rfl) (by kernel_rfl) (by kernel_rfl) (fun _ _ _ h => h) (Or.inl ⟨by rfl, ?hy18n51⟩) (by assumption) ?rest18n51
                  case hy18n51 =>
                    intro w' hSw
                    go_simp
                    try with_reducible rfl
                  try simp only [Act.put, List.getElem_toArray, List.getElem_cons_succ, List.getElem_cons_zero, List.setIfInBounds_toArray, List.set_cons_zero, List.set_cons_succ]
                  refine wpAnyH_take (i := 19) (oi := _) (v := ?v19n52) rfl (by kernel_rfl) (by kernel_rfl) (by kernel_rfl) (fun _ _ _ h => h) (Or.inl ⟨by rfl, ?hy19n52⟩) (by assumption) ?rest19n52
                  case hy19n52 =>
                    intro w' hSw
                    go_simp
                    try with_reducible rfl
                  try simp only [Act.put, List.getElem_toArray, List.getElem_cons_succ, List.getElem_cons_zero, List.setIfInBounds_toArray, List.set_cons_zero, List.set_cons_succ]
                  refine wpAnyH_take (i := 20) (oi := _) (v := ?v20n53) rfl (by kernel_rfl) (by kernel_rfl) (by kernel_rfl) (fun _ _ _ h => h) (Or.inl ⟨by rfl, ?hy20n53⟩) (by assumption) ?rest20n53
                  case hy20n53 =>
                    intro w' hSw
                    have h1 := HX2.out w' hSw
                    go_simp
                    try with_reducible rfl
                  try simp only [Act.put, List.getElem_toArray, List.getElem_cons_succ, List.getElem_cons_zero, List.setIfInBounds_toArray, List.set_cons_zero, List.set_cons_succ]
                  refine wpAnyH_take (i := 21) (oi := _) (v := ?v21n54) rfl (by kernel_rfl) (by kernel_rfl) (by kernel_rfl) (fun _ _ _ h => h) (Or.inl ⟨by rfl, ?hy21n54⟩) (by assumption) ?rest21n54
                  case hy21n54 =>
                    intro w' hSw
                    have h1 := HV2.out w' hSw
                    go_simp
                    try with_reducible rfl
                  try simp only [Act.put, List.getElem_toArray, List.getElem_cons_succ, List.getElem_cons_zero, List.setIfInBounds_toArray, List.set_cons_zero, List.set_cons_succ]
                  refine wpAnyH_take (i := 22) (oi := _) (v := ?v22n55) rfl (by kernel_rfl) (by kernel_rfl) (by kernel_rfl) (fun _ _ _ h => h) (Or.inl ⟨by rfl, ?hy22n55⟩) (by assumption) ?rest22n55
                  case hy22n55 =>
                    intro w' hSw
                    go_simp
                    try with_reducible rfl
                  try simp only [Act.put, List.getElem_toArray, List.getElem_cons_succ, List.getElem_cons_zero, List.setIfInBounds_toArray, List.set_cons_zero, List.set_cons_succ]
                  refine wpAnyH_take (i := 23) (oi := _) (v := ?v23n56) rfl (by kernel_rfl) (by kernel_rfl) (by kernel_rfl) (fun _ _ _ h => h) (Or.inl ⟨by rfl, ?hy23n56⟩) (by assumption) ?rest23n56
                  case hy23n56 =>
                    intro w' hSw
                    go_simp
                    try with_reducible rfl
                  try simp only [Act.put, List.getElem_toArray, List.getElem_cons_succ, List.getElem_cons_zero, List.setIfInBounds_toArray, List.set_cons_zero, List.set_cons_succ]
                  refine wpAnyH_done (by kernel_rfl) ?_ _
                  clear hHeld
                  have HBZ := Lib.hid (HBI.out.trans (hbz.mono HBI.out.size))
                  go_wp2_with fail
                  refine (HAW.out _ HBZ.out).mono ?_
                  rintro e wq ⟨rfl, bq⟩
                  have HBZ2 := Lib.hid (HBZ.out.trans (bq.mono HBZ.out.size))
                  go_wp2_with fail
                  go_ret
                  exact ⟨rfl, HBZ2.out⟩
              · have he : ∀ W, (binOp .eql 32 (.agg (dg q.b)) (.agg (dg q2.b))).run Tryd.prog W = .ok (.bool false) W := fun W => by have := HEQ.out W; rw [decide_eq_false hsh] at this; exact this
                have HFIN := Lib.hid (HSTEP.out (fun h => absurd h hsh))
                clear hsh
                go_wp2_with fail
                have HSD := Lib.hid ((Below.refl wr.heap.size wr).drew)
                refine wp_region_held_drew (S := fun w' => Below wr.heap.size wr w') (by kernel_rfl) ((Below.refl wr.heap.size wr).drew) (fun hHeld => ?_)
                refine wpAnyH_take (i := 0) (oi := _) (v := ?v0n57) rfl (by kernel_rfl) (by kernel_rfl) (by kernel_rfl) (fun _ _ _ h => h) (Or.inl ⟨by rfl, ?hy0n57⟩) (by assumption) ?rest0n57
                case hy0n57 =>
                  intro w' hSw
                  go_simp
                  try with_reducible rfl
                try simp only [Act.put, List.getElem_toArray, List.getElem_cons_succ, List.getElem_cons_zero, List.setIfInBounds_toArray, List.set_cons_zero, List.set_cons_succ]
                refine wpAnyH_take (i := 1) (oi := _) (v := ?v1n58) rfl (by kernel_rfl) (by kernel_rfl) (by kernel_rfl) (fun _ _ _ h => h) (Or.inl ⟨by rfl, ?hy1n58⟩) (by assumption) ?rest1n58
                case hy1n58 =>
                  intro w' hSw
                  go_simp
                  try with_reducible rfl
                try simp only [Act.put, List.getElem_toArray, List.getElem_cons_succ, List.getElem_cons_zero, List.setIfInBounds_toArray, List.set_cons_zero, List.set_cons_succ]
                refine wpAnyH_take (i := 2) (oi := _) (v := ?v2n59) rfl (by kernel_rfl) (by kernel_rfl) (by kernel_rfl) (fun _ _ _ h => h) (Or.inl ⟨by rfl, ?hy2n59⟩) (by assumption) ?rest2n59
                case hy2n59 =>
                  intro w' hSw
                  go_simp
                  try with_reducible rfl
                try simp only [Act.put, List.getElem_toArray, List.getElem_cons_succ, List.getElem_cons_zero, List.setIfInBounds_toArray, List.set_cons_zero, List.set_cons_succ]
                refine wpAnyH_take (i := 3) (oi := _) (v := ?v3n60) rfl (by kernel_rfl) (by kernel_rfl) (by kernel_rfl) (fun _ _ _ h => h) (Or.inl ⟨by rfl, ?hy3n60⟩) (by assumption) ?rest3n60
                case hy3n60 =>
                  intro w' hSw
                  have h1 := HX1.out w' hSw
                  go_simp
                  try with_reducible rfl
                try simp only [Act.put, List.getElem_toArray, List.getElem_cons_succ, List.getElem_cons_zero, List.setIfInBounds_toArray, List.set_cons_zero, List.set_cons_succ]
                refine wpAnyH_take (i := 5) (oi := _) (v := ?v5n61) rfl (by kernel_rfl) (by kernel_rfl) (by kernel_rfl) (fun _ _ _ h => h) (Or.inl ⟨by rfl, ?hy5n61⟩) (by assumption) ?rest5n61
                case hy5n61 =>
                  intro w' hSw
                  go_simp
                  try with_reducible rfl
                try simp only [Act.put, List.getElem_toArray, List.getElem_cons_succ, List.getElem_cons_zero, List.setIfInBounds_toArray, List.set_cons_zero, List.set_cons_succ]
                refine wpAnyH_take (i := 6) (oi := _) (v := ?v6n62) rfl (by kernel_rfl) (by kernel_rfl) (by kernel_rfl) (fun _ _ _ h => h) (Or.inl ⟨by rfl, ?hy6n62⟩) (by assumption) ?rest6n62
                case hy6n62 =>
                  intro w' hSw
                  go_simp
                  try with_reducible rfl
                try simp only [Act.put, List.getElem_toArray, List.getElem_cons_succ, List.getElem_cons_zero, List.setIfInBounds_toArray, List.set_cons_zero, List.set_cons_succ]
                refine wpAnyH_take (i := 7) (oi := _) (v := ?v7n63) rfl (by kernel_rfl) (by kernel_rfl) (by kernel_rfl) (fun _ _ _ h => h) (Or.inl ⟨by rfl, ?hy7n63⟩) (by assumption) ?rest7n63
                case hy7n63 =>
                  intro w' hSw
                  go_simp
                  try with_reducible rfl
                try simp only [Act.put, List.getElem_toArray, List.getElem_cons_succ, List.getElem_cons_zero, List.setIfInBounds_toArray, List.set_cons_zero, List.set_cons_succ]
                refine wpAnyH_take (i := 8) (oi := _) (v := ?v8n64) rfl (by kernel_rfl) (by kernel_rfl) (by kernel_rfl) (fun _ _ _ h => h) (Or.inl ⟨by rfl, ?hy8n64⟩) (by assumption) ?rest8n64
                case hy8n64 =>
                  intro w' hSw
                  have h1 := HX2.out w' hSw
                  go_simp
                  try with_reducible rfl
                try simp only [Act.put, List.getElem_toArray, List.getElem_cons_succ, List.getElem_cons_zero, List.setIfInBounds_toArray, List.set_cons_zero, List.set_cons_succ]
                have hSb := HSD.out
                refine wpAnyH_ready (rs := [4]) (by kernel_rfl) (by simp) (AllReadyH.cons (o := _) rfl (fun K hK => ?_) AllReadyH.nil)
                go_simp
                refine (HF1.out _ hSb).mono ?_
                rintro e wz ⟨rfl, bz⟩
                have hbz := hSb.trans (bz.mono hSb.size)
                go_wp2_with fail
                refine hK.out _ _ hbz (fun hHeld => ?_)
                clear hK K
                try simp only [Act.put, List.getElem_toArray, List.getElem_cons_succ, List.getElem_cons_zero, List.setIfInBounds_toArray, List.set_cons_zero, List.set_cons_succ]
                clear hSb
                have hSb := hbz
                clear hbz
                refine wpAnyH_ready (rs := [9]) (by kernel_rfl) (by simp) (AllReadyH.cons (o := _) rfl (fun K hK => ?_) AllReadyH.nil)
                go_simp
                refine (HF2.out _ hSb).mono ?_
                rintro e wz ⟨rfl, bz⟩
                have hbz := hSb.trans (bz.mono hSb.size)
                go_wp2_with fail
                refine hK.out _ _ hbz (fun hHeld => ?_)
                clear hK K
                try simp only [Act.put, List.getElem_toArray, List.getElem_cons_succ, List.getElem_cons_zero, List.setIfInBounds_toArray, List.set_cons_zero, List.set_cons_succ]
                refine wpAnyH_take (i := 10) (oi := _) (v := ?v10n65) rfl (by kernel_rfl) (by kernel_rfl) (by kernel_rfl) (fun _ _ _ h => h) (Or.inl ⟨by rfl, ?hy10n65⟩) (by assumption) ?rest10n65
                case hy10n65 =>
                  intro w' hSw
                  go_simp
                  try with_reducible rfl
                try simp only [Act.put, List.getElem_toArray, List.getElem_cons_succ, List.getElem_cons_zero, List.setIfInBounds_toArray, List.set_cons_zero, List.set_cons_succ]
                refine wpAnyH_take (i := 11) (oi := _) (v := ?v11n66) rfl (by kernel_rfl) (by kernel_rfl) (by kernel_rfl) (fun _ _ _ h => h) (Or.inl ⟨by rfl, ?hy11n66⟩) (by assumption) ?rest11n66
                case hy11n66 =>
                  intro w' hSw
                  go_simp
                  try with_reducible rfl
                try simp only [Act.put, List.getElem_toArray, List.getElem_cons_succ, List.getElem_cons_zero, List.setIfInBounds_toArray, List.set_cons_zero, List.set_cons_succ]
                refine wpAnyH_take (i := 12) (oi := _) (v := undef) rfl (by kernel_rfl) (by kernel_rfl) (by kernel_rfl) (fun _ _ _ h => h) (Or.inr ⟨by rfl, rfl⟩) (by assumption) ?rest12n67
                try simp only [Act.put, List.getElem_toArray, List.getElem_cons_succ, List.getElem_cons_zero, List.setIfInBounds_toArray, List.set_cons_zero, List.set_cons_succ]
                refine wpAnyH_take (i := 13) (oi := _) (v := undef) rfl (by kernel_rfl) (by kernel_rfl) (by kernel_rfl) (fun _ _ _ h => h) (Or.inr ⟨by rfl, rfl⟩) (by assumption) ?rest13n68
                try simp only [Act.put, List.getElem_toArray, List.getElem_cons_succ, List.getElem_cons_zero, List.setIfInBounds_toArray, List.set_cons_zero, List.set_cons_succ]
                refine wpAnyH_take (i := 14) (oi := _) (v := undef) rfl (by kernel_rfl) (by kernel_rfl) (by kernel_rfl) (fun _ _ _ h => h) (Or.inr ⟨by rfl, rfl⟩) (by assumption) ?rest14n69
                try simp only [Act.put, List.getElem_toArray, List.getElem_cons_succ, List.getElem_cons_zero, List.setIfInBounds_toArray, List.set_cons_zero, List.set_cons_succ]
                refine wpAnyH_take (i := 15) (oi := _) (v := undef) rfl (by kernel_rfl) (by kernel_rfl) (by kernel_rfl) (fun _ _ _ h => h) (Or.inr ⟨by rfl, rfl⟩) (by assumption) ?rest15n70
                try simp only [Act.put, List.getElem_toArray, List.getElem_cons_succ, List.getElem_cons_zero, List.setIfInBounds_toArray, List.set_cons_zero, List.set_cons_succ]
                refine wpAnyH_take (i := 16) (oi := _) (v := undef) rfl (by kernel_rfl) (by kernel_rfl) (by kernel_rfl) (fun _ _ _ h => h) (Or.inr ⟨by rfl, rfl⟩) (by assumption) ?rest16n71
                try simp only [Act.put, List.getElem_toArray, List.getElem_cons_succ, List.getElem_cons_zero, List.setIfInBounds_toArray, List.set_cons_zero, List.set_cons_succ]
                refine wpAnyH_take (i := 17) (oi := _) (v := undef) rfl (by kernel_rfl) (by kernel_rfl) (by kernel_rfl) (fun _ _ _ h => h) (Or.inr ⟨by rfl, rfl⟩) (by assumption) ?rest17n72
                try simp only [Act.put, List.getElem_toArray, List.getElem_cons_succ, List.getElem_cons_zero, List.setIfInBounds_toArray, List.set_cons_zero, List.set_cons_succ]
                refine wpAnyH_take (i := 18) (oi := _) (v := undef) rfl (by kernel_rfl) (by kernel_rfl) (by kernel_rfl) (fun _ _ _ h => h) (Or.inr ⟨by rfl, rfl⟩) (by assumption) ?rest18n73
                try simp only [Act.put, List.getElem_toArray, List.getElem_cons_succ, List.getElem_cons_zero, List.setIfInBounds_toArray, List.set_cons_zero, List.set_cons_succ]
                refine wpAnyH_take (i := 19) (oi := _) (v := undef) rfl (by kernel_rfl) (by kernel_rfl) (by kernel_rfl) (fun _ _ _ h => h) (Or.inr ⟨by rfl, rfl⟩) (by assumption) ?rest19n74
                try simp only [Act.put, List.getElem_toArray, List.getElem_cons_succ, List.getElem_cons_zero, List.setIfInBounds_toArray, List.set_cons_zero, List.set_cons_succ]
                refine wpAnyH_take (i := 20) (oi := _) (v := undef) rfl (by kernel_rfl) (by kernel_rfl) (by kernel_rfl) (fun _ _ _ h => h) (Or.inr ⟨by rfl, rfl⟩) (by assumption) ?rest20n75
                try simp only [Act.put, List.getElem_toArray, List.getElem_cons_succ, List.getElem_cons_zero, List.setIfInBounds_toArray, List.set_cons_zero, List.set_cons_succ]
                refine wpAnyH_take (i := 21) (oi := _) (v := undef) rfl (by kernel_rfl) (by kernel_rfl) (by kernel_rfl) (fun _ _ _ h => h) (Or.inr ⟨by rfl, rfl⟩) (by assumption) ?rest21n76
                try simp only [Act.put, List.getElem_toArray, List.getElem_cons_succ, List.getElem_cons_zero, List.setIfInBounds_toArray, List.set_cons_zero, List.set_cons_succ]
                refine wpAnyH_take (i := 22) (oi := _) (v := undef) rfl (by kernel_rfl) (by kernel_rfl) (by kernel_rfl) (fun _ _ _ h => h) (Or.inr ⟨by rfl, rfl⟩) (by assumption) ?rest22n77
                try simp only [Act.put, List.getElem_toArray, List.getElem_cons_succ, List.getElem_cons_zero, List.setIfInBounds_toArray, List.set_cons_zero, List.set_cons_succ]
                refine wpAnyH_take (i := 23) (oi := _) (v := ?v23n78) rfl (by kernel_rfl) (by kernel_rfl) (by kernel_rfl) (fun _ _ _ h => h) (Or.inl ⟨by rfl, ?hy23n78⟩) (by assumption) ?rest23n78
                case hy23n78 =>
                  intro w' hSw
                  go_simp
                  try with_reducible rfl
                try simp only [Act.put, List.getElem_toArray, List.getElem_cons_succ, List.getElem_cons_zero, List.setIfInBounds_toArray, List.set_cons_zero, List.set_cons_succ]
                refine wpAnyH_done (by kernel_rfl) ?_ _
                clear hHeld
                go_wp2_with fail
                go_roundw
                case rel => exact ⟨j + 1, by go_num, hjk, HEI.out.trans (hbz.mono HEI.out.size), HFIN.out⟩
                case measure => simp [intOf]; omega
            · obtain rfl : j = k := by omega
              have hd2 : decide ((j : Int) < (j : Int)) = false := by simp
              have HFIN : Hid (NoCol ((ps.take (j + 1)).map Part.b)) := by show NoCol _; rw [part_take HQ.out]; exact HNC.out.snoc HNI.out
              have HEZ := Lib.hid (HE.out.trans (HEI.out.mono HE.out.size))
              clear HNI HNC HC1 HSR1
              go_wp2_with fail
              go_roundw
              case rel => exact ⟨j + 1, by go_num, hlt, HEZ.out, HFIN.out⟩
              case measure => simp [intOf]; omega
        · obtain rfl : k = np := by omega
          have hd : decide ((k : Int) < (k : Int)) = false := by simp
          have HNC2 : Hid (NoCol (ps.map Part.b)) := by have := HNC.out; rw [List.take_of_length_le (by rw [HP.out.len]; exact Nat.le_refl _)] at this; exact this
          have HS9 := Lib.hid (HS.out.below HE.out)
          have HB9 := Lib.hid HBW.out
          clear HNC HE HBW HS HB
          obtain ⟨w9, hw9⟩ : ∃ wx, wx = wr := ⟨_, rfl⟩
          subst hw9
          generalize hnk : k = np at *
          clear hnk
          go_wp2_with fail
          go_loopw [10, 11] (fun v i wr => ∃ (k m2 c2 : Nat) (g2 : Option Addr) (D : List (List Int)), v = .slice g2 m2 c2 ∧ i = .int .i64 k ∧ k ≤ np ∧ Hid (DigsIn wr wr.heap.size g2 m2 c2 D ∧ (g2 = none → c2 = 0) ∧ AddP D ((ps.take k).map Part.b) ∧ m2 ≤ k ∧ Below w9.heap.size w9 wr)) (fun _ i _ => np - (intOf i).toNat)
          case atStart => exact ⟨0, 0, 0, none, [], rfl, rfl, Nat.zero_le _, (OwnDg.nil w9 0).digs rfl, fun _ => rfl, AddP.nil, Nat.le_refl _, Below.refl _ _⟩
          case round =>
            obtain ⟨k, m2, c2, g2, D, rfl, rfl, hk, H⟩ := hrel
            have HDG := Lib.hid H.out.1; have HDN := Lib.hid H.out.2.1; have HAP := Lib.hid H.out.2.2.1; have hmk2 := H.out.2.2.2.1; have HE := Lib.hid H.out.2.2.2.2
            clear H
            have HBW := Lib.hid (HB9.out.trans (HE.out.mono HB9.out.size))
            have HSW := Lib.hid (HS9.out.below HE.out)
            by_cases hlt : k < np
            · have hd : decide ((k : Int) < (np : Int)) = true := by simp; omega
              obtain ⟨q, pb, po, hq, rfl, hpb, hcell0, hsrc⟩ := part_at (HP.out.below HBW.out (Nat.le_refl _)) hlt
              have hcell : wr.cell? ⟨pb, po + k, none⟩ = some (.slice q.sp q.n q.cap) := hcell0
              have HQ := Lib.hid hq
              have HC1 := Lib.hid hcell; have HSR1 := Lib.hid (hsrc.more HBW.out.size); have HPB := Lib.hid (Nat.lt_of_lt_of_le hpb HBW.out.size)
              have HQN := Lib.hid (HNIL.out q (List.mem_of_getElem? hq))
              have HQM := Lib.hid (List.mem_map_of_mem (f := Part.b) (List.mem_of_getElem? hq))
              have hqs := HSM2.out q (List.mem_of_getElem? hq)
              have p1 : (0 : Int) ≤ (k : Int) := by omega
              have p2 : (k : Int) < (np : Int) := by omega
              clear hq hcell0 hsrc hpb
              go_wp2_with fail
              refine (refSum_any q.sp q.n q.cap q.b wr HSR1.out HQN.out (by omega)).mono ?_
              rintro e w1 ⟨rfl, b1⟩
              have HE1 := Lib.hid (HE.out.trans (b1.mono HE.out.size))
              have HSR2 := Lib.hid ((HSR1.out.below b1 (Nat.le_refl _)).more b1.size)
              have HC2 := Lib.hid ((b1.cell (p := ⟨pb, po + k, none⟩) HPB.out).trans HC1.out)
              have HPB1 := Lib.hid (Nat.lt_of_lt_of_le HPB.out b1.size)
              have HDG1 := Lib.hid (HDG.out.upD b1 b1.size)
              have HS1 := Lib.hid (HSW.out.below b1)
              have HZ1 := Lib.hid (heap_alloc_new w1 (.cells (Array.replicate 32 (Value.int .u8 0)) 32))
              have HID := Lib.hid (info_d (shb_ok q.b))
              clear b1 hcell
              go_wp2_with (first
                | (refine wpList_store_row rfl 32 _ _ rfl w1.heap.size _ rfl rfl 32 _ HZ1.out (dg_info _) (by rw [dg_size]; rfl) (dg_one _) ?_; rw [setRow_new]; generalize hw2 : World.alloc w1 _ = w2; have hb2 : Below w1.heap.size w1 w2 := (by rw [← hw2]; exact (Below.refl _ _).alloc (Nat.le_refl _) _); have HR2 := (by rw [← hw2]; exact Lib.hid (dv_row w1 (shb q.b)) : Hid (w2.rangeAt w1.heap.size 0 ((shb q.b).map (Value.int .u8)))); have HL2 := (by rw [← hw2]; exact Lib.hid (by simp) : Hid (w1.heap.size < w2.heap.size)); have HE2 := Lib.hid (HE1.out.trans (hb2.mono HE1.out.size)); have HS2 := Lib.hid (HS1.out.below hb2); have HSR3 := Lib.hid ((HSR2.out.below hb2 (Nat.le_refl _)).more hb2.size); have HC3 := Lib.hid ((hb2.cell (p := ⟨pb, po + k, none⟩) HPB1.out).trans HC2.out); have HPB2 := Lib.hid (Nat.lt_of_lt_of_le HPB1.out hb2.size); have HDG2 := Lib.hid (HDG1.out.upD hb2 hb2.size); clear hw2 hb2)
                | (refine wpList_load_mid rfl 32 _ rfl w1.heap.size 0 rfl _ _ HR2.out Tryd.underlying32 rfl HID.out ?_))
              refine (get_v g m c L (shb q.b) w2 (HS2.out.bls HLN.out) (by omega) (fun x hx => by have := sto_small HS2.out HKP2.out.good x hx; omega) (shb_ok _)).mono ?_
              rintro e w3 ⟨⟨sg, mg, cg, f, gb, rfl, hgv, hsg⟩, b3⟩
              have hfg : f = true ∧ gb = q.b := by
                rcases hgv with ⟨_, _, hno⟩ | ⟨h1, j, x, hx, hxd, _, hxb⟩
                · exfalso
                  obtain ⟨p, hp, hpd⟩ := HKP2.out.has _ HQM.out
                  obtain ⟨y, hy, rfl⟩ := List.mem_map.1 hp
                  exact hno y hy hpd
                · exact ⟨h1, by rw [hxb]; exact keep_get HKP2.out HNC2.out HQM.out (List.mem_of_getElem? hx) hxd⟩
              obtain ⟨rfl, rfl⟩ := hfg
              obtain ⟨u, hu⟩ : ∃ u : ByteArray, ⟨(uOf q.b).toArray⟩ = u := ⟨_, rfl⟩
              have HSG := Lib.hid hsg
              have HE3 := Lib.hid (HE2.out.trans (b3.mono HE2.out.size))
              have HR3 := Lib.hid (range_belowG HR2.out b3 HL2.out)
              have HL3 := Lib.hid (Nat.lt_of_lt_of_le HL2.out b3.size)
              have HDG3 := Lib.hid (HDG2.out.upD b3 b3.size)
              have HX1 : Hid (∀ w', Below w3.heap.size w3 w' → w'.cell? ⟨pb, po + k, none⟩ = some (.slice q.sp q.n q.cap)) := fun w' hb => (hb.cell (p := ⟨pb, po + k, none⟩) (Nat.lt_of_lt_of_le HPB2.out b3.size)).trans ((b3.cell (p := ⟨pb, po + k, none⟩) HPB2.out).trans HC3.out)
              have HV1 : Hid (∀ w', Below w3.heap.size w3 w' → (convert 35 9 (.slice q.sp q.n q.cap)).run Tryd.prog w' = .ok (.string u) w') := fun w' hb => by rw [← hu]; exact conv_src ((HSR3.out.below b3 (Nat.le_refl _)).below hb b3.size) _
              have HV2 : Hid (∀ w', Below w3.heap.size w3 w' → (convert 35 9 (.slice sg mg cg)).run Tryd.prog w' = .ok (.string u) w') := fun w' hb => by rw [← hu]; exact conv_src (HSG.out.below hb (Nat.le_refl _)) _
              clear hgv hsg hu b3
              go_wp2_with fail
              refine wp_region_held_drew (S := fun w' => Below w3.heap.size w3 w') (by kernel_rfl) ((Below.refl w3.heap.size w3).drew) (fun hHeld => ?_)
              refine wpAnyH_take (i := 0) (oi := _) (v := ?v0n1) rfl (by kernel_rfl) (by kernel_rfl) (by kernel_rfl) (fun _ _ _ h => h) (Or.inl ⟨by rfl, ?hy0n1⟩) (by assumption) ?rest0n1
              case hy0n1 =>
                intro w' hSw
                go_simp
                try with_reducible rfl
              try simp only [Act.put, List.getElem_toArray, List.getElem_cons_succ, List.getElem_cons_zero, List.setIfInBounds_toArray, List.set_cons_zero, List.set_cons_succ]
              refine wpAnyH_take (i := 1) (oi := _) (v := ?v1n2) rfl (by kernel_rfl) (by kernel_rfl) (by kernel_rfl) (fun _ _ _ h => h) (Or.inl ⟨by rfl, ?hy1n2⟩) (by assumption) ?rest1n2
              case hy1n2 =>
                intro w' hSw
                go_simp
                try with_reducible rfl
              try simp only [Act.put, List.getElem_toArray, List.getElem_cons_succ, List.getElem_cons_zero, List.setIfInBounds_toArray, List.set_cons_zero, List.set_cons_succ]
              refine wpAnyH_take (i := 2) (oi := _) (v := ?v2n3) rfl (by kernel_rfl) (by kernel_rfl) (by kernel_rfl) (fun _ _ _ h => h) (Or.inl ⟨by rfl, ?hy2n3⟩) (by assumption) ?rest2n3
              case hy2n3 =>
                intro w' hSw
                go_simp
                try with_reducible rfl
              try simp only [Act.put, List.getElem_toArray, List.getElem_cons_succ, List.getElem_cons_zero, List.setIfInBounds_toArray, List.set_cons_zero, List.set_cons_succ]
              refine wpAnyH_take (i := 3) (oi := _) (v := ?v3n4) rfl (by kernel_rfl) (by kernel_rfl) (by kernel_rfl) (fun _ _ _ h => h) (Or.inl ⟨by rfl, ?hy3n4⟩) (by assumption) ?rest3n4
              case hy3n4 =>
                intro w' hSw
                go_simp
                try with_reducible rfl
              try simp only [Act.put, List.getElem_toArray, List.getElem_cons_succ, List.getElem_cons_zero, List.setIfInBounds_toArray, List.set_cons_zero, List.set_cons_succ]
              refine wpAnyH_take (i := 4) (oi := _) (v := ?v4n5) rfl (by kernel_rfl) (by kernel_rfl) (by kernel_rfl) (fun _ _ _ h => h) (Or.inl ⟨by rfl, ?hy4n5⟩) (by assumption) ?rest4n5
              case hy4n5 =>
                intro w' hSw
                have h1 := HV2.out w' hSw
                go_simp
                try with_reducible rfl
              try simp only [Act.put, List.getElem_toArray, List.getElem_cons_succ, List.getElem_cons_zero, List.setIfInBounds_toArray, List.set_cons_zero, List.set_cons_succ]
              refine wpAnyH_take (i := 5) (oi := _) (v := ?v5n6) rfl (by kernel_rfl) (by kernel_rfl) (by kernel_rfl) (fun _ _ _ h => h) (Or.inl ⟨by rfl, ?hy5n6⟩) (by assumption) ?rest5n6
              case hy5n6 =>
                intro w' hSw
                go_simp
                try with_reducible rfl
              try simp only [Act.put, List.getElem_toArray, List.getElem_cons_succ, List.getElem_cons_zero, List.setIfInBounds_toArray, List.set_cons_zero, List.set_cons_succ]
              refine wpAnyH_take (i := 6) (oi := _) (v := ?v6n7) rfl (by kernel_rfl) (by kernel_rfl) (by kernel_rfl) (fun _ _ _ h => h) (Or.inl ⟨by rfl, ?hy6n7⟩) (by assumption) ?rest6n7
              case hy6n7 =>
                intro w' hSw
                go_simp
                try with_reducible rfl
              try simp only [Act.put, List.getElem_toArray, List.getElem_cons_succ, List.getElem_cons_zero, List.setIfInBounds_toArray, List.set_cons_zero, List.set_cons_succ]
              refine wpAnyH_take (i := 7) (oi := _) (v := ?v7n8) rfl (by kernel_rfl) (by kernel_rfl) (by kernel_rfl) (fun _ _ _ h => h) (Or.inl ⟨by rfl, ?hy7n8⟩) (by assumption) ?rest7n8
              case hy7n8 =>
                intro w' hSw
                go_simp
                try with_reducible rfl
              try simp only [Act.put, List.getElem_toArray, List.getElem_cons_succ, List.getElem_cons_zero, List.setIfInBounds_toArray, List.set_cons_zero, List.set_cons_succ]
              refine wpAnyH_take (i := 8) (oi := _) (v := ?v8n9) rfl (by kernel_rfl) (by kernel_rfl) (by kernel_rfl) (fun _ _ _ h => h) (Or.inl ⟨by rfl, ?hy8n9⟩) (by assumption) ?rest8n9
              case hy8n9 =>
                intro w' hSw
                have h1 := HX1.out w' hSw
                go_simp
                try with_reducible rfl
              try simp only [Act.put, List.getElem_toArray, List.getElem_cons_succ, List.getElem_cons_zero, List.setIfInBounds_toArray, List.set_cons_zero, List.set_cons_succ]
              refine wpAnyH_take (i := 9) (oi := _) (v := ?v9n10) rfl (by kernel_rfl) (by kernel_rfl) (by kernel_rfl) (fun _ _ _ h => h) (Or.inl ⟨by rfl, ?hy9n10⟩) (by assumption) ?rest9n10
              case hy9n10 =>
                intro w' hSw
                have h1 := HV1.out w' hSw
                go_simp
                try with_reducible rfl
              try simp only [Act.put, List.getElem_toArray, List.getElem_cons_succ, List.getElem_cons_zero, List.setIfInBounds_toArray, List.set_cons_zero, List.set_cons_succ]
              refine wpAnyH_take (i := 10) (oi := _) (v := ?v10n11) rfl (by kernel_rfl) (by kernel_rfl) (by kernel_rfl) (fun _ _ _ h => h) (Or.inl ⟨by rfl, ?hy10n11⟩) (by assumption) ?rest10n11
              case hy10n11 =>
                intro w' hSw
                go_simp
                try with_reducible rfl
              try simp only [Act.put, List.getElem_toArray, List.getElem_cons_succ, List.getElem_cons_zero, List.setIfInBounds_toArray, List.set_cons_zero, List.set_cons_succ]
              refine wpAnyH_take (i := 11) (oi := _) (v := ?v11n12) rfl (by kernel_rfl) (by kernel_rfl) (by kernel_rfl) (fun _ _ _ h => h) (Or.inl ⟨by rfl, ?hy11n12⟩) (by assumption) ?rest11n12
              case hy11n12 =>
                intro w' hSw
                go_simp
                try with_reducible rfl
              try simp only [Act.put, List.getElem_toArray, List.getElem_cons_succ, List.getElem_cons_zero, List.setIfInBounds_toArray, List.set_cons_zero, List.set_cons_succ]
              refine wpAnyH_done (by kernel_rfl) ?_ _
              clear hHeld
              have HBD : Hid (Below w3.heap.size w3 w3.drew) := (Below.refl w3.heap.size w3).drew
              have HE4 := Lib.hid (HE3.out.trans (HBD.out.mono HE3.out.size))
              have HR4 := Lib.hid (range_belowG HR3.out HBD.out HL3.out)
              have HDG4 := Lib.hid (HDG3.out.upD HBD.out HBD.out.size)
              generalize World.drew w3 = w4 at *
              go_wp2_with (refine wpList_load_mid rfl 32 _ rfl w1.heap.size 0 rfl _ _ HR4.out Tryd.underlying32 rfl HID.out ?_)
              refine (radd_any g2 m2 c2 D (shb q.b) w4 HDG4.out HDN.out (shb_ok _) (by omega)).mono ?_
              rintro e w5 ⟨g5, m5, c5, T, rfl, hadd, hdg5, hn5, b5⟩
              have HAP5 : Hid (AddP T ((ps.take (k + 1)).map Part.b)) := by show AddP _ _; rw [part_take HQ.out]; exact HAP.out.add hadd
              have hm5 : m5 ≤ k + 1 := by
                have h1 := hdg5.len
                have h2 := HDG4.out.len
                rcases hadd with ⟨_, rfl⟩ | ⟨_, j, _, _, rfl⟩
                · omega
                · have h4 : (D.take j).length + (D.drop j).length = D.length := by rw [← List.length_append, List.take_append_drop]
                  rw [List.length_append, List.length_cons] at h1; omega
              have HDG5 := Lib.hid hdg5; have HDN5 := Lib.hid hn5
              have HE5 := Lib.hid (HE4.out.trans (b5.mono HE4.out.size))
              clear hadd hdg5 hn5 b5
              go_wp2_with fail
              go_roundw
              case rel => exact ⟨k + 1, m5, c5, g5, T, rfl, by go_num, hlt, HDG5.out, HDN5.out, HAP5.out, hm5, HE5.out⟩
              case measure => simp [intOf]; omega
            · obtain rfl : k = np := by omega
              have hd : decide ((k : Int) < (k : Int)) = false := by simp
              have HAP2 : Hid (AddP D (ps.map Part.b)) := by have := HAP.out; rw [List.take_of_length_le (by rw [HP.out.len]; exact Nat.le_refl _)] at this; exact this
              have hmm : m = m2 := by
                have h1 := keep_len HKP2.out HAP2.out
                rw [List.length_map, HLN.out, HDG.out.len] at h1; exact h1
              subst hmm
              have HAUD := Lib.hid (keep_aud HKP2.out.good)
              have HVLD := Lib.hid (HKP2.out.good.vld (by rw [List.length_map, HLN.out]; omega))
              have HS40 : Hid (∀ x ∈ L, x.n ≤ 1099511627776) := fun x hx => by have := sto_small HSW.out HKP2.out.good x hx; omega
              clear HDG HDN HAP HAP2 HKP2
              go_wp2_with fail
              refine (HAW.out wr HBW.out).mono ?_
              rintro e w1 ⟨rfl, b1⟩
              have HB1 := Lib.hid (HBW.out.trans (b1.mono HBW.out.size))
              have HS1 := Lib.hid (HSW.out.below b1)
              clear b1
              go_wp2_with fail
              refine (valid_bls g m c L w1 (HS1.out.bls HLN.out) (by omega)).mono ?_
              rw [HVLD.out]
              rintro e w2 ⟨rfl, b2⟩
              have HB2 := Lib.hid (HB1.out.trans (b2.mono HB1.out.size))
              have HS2 := Lib.hid (HS1.out.below b2)
              clear b2
              go_wp2_with fail
              refine (audit_any g m c L w2 (HS2.out.bls HLN.out) (by omega) HS40.out (HK.out.below HB2.out HK0.out) (Nat.lt_of_lt_of_le HK0.out HB2.out.size)).mono ?_
              rw [HAUD.out]
              rintro e w3 ⟨ga, ka, ca, rfl, hka, _, b3⟩
              have hka0 : ka = 0 := hka
              subst hka0
              have HB3 := Lib.hid (HB2.out.trans (b3.mono HB2.out.size))
              clear hka b3
              go_wp2_with fail
              go_ret
              exact ⟨rfl, HB3.out⟩
end Go.Proofs.YtfehgkpmjnmpeaaDoor
