/-
  The walk of KeytreeChecks (conditions: the lists of the signature read as halves; the table of constants reads as it is laid).
-/
import Derived.Test.YthbcpcddanknhaaDoorKeyRv
import Derived.Test.YthbcpcddanknhaaDoorKeyW
namespace Go.Proofs.YthbcpcddanknhaaDoor
open Go.RowKit Go.Proofs.YthbcpcddanknhaaDoor.One

set_option maxRecDepth 100000 in
set_option maxHeartbeats 8000000 in
theorem keytreeChecks_any (h : Int) (r d : List Int) (l : Int) (sp1 : Option Addr) (n c1 : Nat) (cl : List (List Int)) (sp2 : Option Addr) (m c2 : Nat) (pl : List (List Int)) (w : World) (hr : H16 r) (hd : D32 d) (hc : HvsIn w w.heap.size sp1 n c1 cl) (hp : HvsIn w w.heap.size sp2 m c2 pl) (hk : KayIn w) (hk0 : 0 < w.heap.size) :
    Calls Tryd.prog 6 #[.agg (pkA h r), .agg (dgA d), .agg (siA l (.slice sp1 n c1) (.slice sp2 m c2))] w fun e w' => e = .returned (.bool true) ∧ Below w.heap.size w w' := by
  have HR16 := Lib.hid hr; have HD := Lib.hid hd; have HC := Lib.hid hc; have HP := Lib.hid hp; have HK := Lib.hid hk
  have HID := Lib.hid (info_d hd)
  clear hr hd hc hp hk
  have HT := Lib.hid (VfBox.new w h r d l (.slice sp1 n c1) (.slice sp2 m c2))
  go_enter Tryd.func6, Tryd.ntmps6
  go_upto_region 1 with (fail)
  generalize hw0 : World.alloc (World.alloc (World.alloc w _) _) _ = v0
  have HT0 : Hid (VfBox w h r d l (.slice sp1 n c1) (.slice sp2 m c2) v0) := by rw [← hw0]; exact HT.out
  clear hw0 HT
  have hsv0 : w.heap.size + 3 ≤ v0.heap.size := Nat.le_of_eq HT0.out.z.symm
  have k3 := si_c HT0.out.s
  have k4 := si_p HT0.out.s
  by_cases h1 : (n : Int) > 100
  · have hd1 : decide ((n : Int) > 100) = true := by simpa using h1
    go_wp2_with fail
    go_ret
    exact ⟨rfl, HT0.out.b⟩
  · have hd1 : decide ((n : Int) > 100) = false := by simpa using h1
    by_cases h2 : (m : Int) > 20
    · have hd2 : decide ((m : Int) > 20) = true := by simpa using h2
      go_wp2_with fail
      go_ret
      exact ⟨rfl, HT0.out.b⟩
    · have hd2 : decide ((m : Int) > 20) = false := by simpa using h2
      have HKv0 : Hid (v0.heap[w.heap.size]? = some (.cells (pkA h r) 25 (0, 0))) := HT0.out.k
      have HDv0 : Hid (v0.heap[w.heap.size + 1]? = some (.cells (dgA d) 32 (0, 0))) := HT0.out.d
      have HSv0 : Hid (v0.heap[w.heap.size + 1 + 1]? = some (.cells (siA l (.slice sp1 n c1) (.slice sp2 m c2)) 41 (0, 0))) := HT0.out.s
      have HBv0 : Hid (Below w.heap.size w v0) := HT0.out.b
      go_upto_region 3 with (fail)
      clear k3 k4 hd1 hd2 h1 h2 HT0
      have HCA := Lib.hid (fun w' (hb : Below w.heap.size w w') (hz : 0 < w'.heap.size) => awake_any w' (HK.out.below hb hk0) hz)
      have HCS := Lib.hid (fun w' => (show Calls Tryd.prog 22 #[.agg (pkL h r).toArray, .agg (siL l (.slice sp1 n c1) (.slice sp2 m c2)).toArray] w' fun e w'' => e = .returned (.bool (shpB h l n m)) ∧ Below w'.heap.size w' w'' from shaped_any h r l sp1 n c1 sp2 m c2 w' HR16.out))
      have HCT := Lib.hid (fun w' => (show Calls Tryd.prog 24 #[.agg (pkL h r).toArray, .agg (siL l (.slice sp1 n c1) (.slice sp2 m c2)).toArray] w' fun e w'' => e = .returned (.bool (shpB h l n m)) ∧ Below w'.heap.size w' w'' from rshaped_any h r l sp1 n c1 sp2 m c2 w' HR16.out))
      have HCV := Lib.hid (fun w' (hb : Below w.heap.size w w') (hz : w.heap.size + 3 ≤ w'.heap.size) => (show Calls Tryd.prog 23 #[.agg (pkL h r).toArray, .agg (d.map (Value.int .u8)).toArray, .agg (siL l (.slice sp1 n c1) (.slice sp2 m c2)).toArray] w' fun e w'' => e = .returned (.bool (vfyB h r d l n m cl pl)) ∧ Below w'.heap.size w' w'' from verify_any h r d l sp1 n c1 sp2 m c2 cl pl w' HR16.out HD.out ((HC.out.below hb (Nat.le_refl _)).more (by omega)) ((HP.out.below hb (Nat.le_refl _)).more (by omega)) (HK.out.below hb hk0) (by omega)))
      have HCW := Lib.hid (fun w' (hb : Below w.heap.size w w') (hz : w.heap.size + 3 ≤ w'.heap.size) => (show Calls Tryd.prog 25 #[.agg (pkL h r).toArray, .agg (d.map (Value.int .u8)).toArray, .agg (siL l (.slice sp1 n c1) (.slice sp2 m c2)).toArray] w' fun e w'' => e = .returned (.bool (vfyB h r d l n m cl pl)) ∧ Below w'.heap.size w' w'' from rverify_any h r d l sp1 n c1 sp2 m c2 cl pl w' HR16.out HD.out ((HC.out.below hb (Nat.le_refl _)).more (by omega)) ((HP.out.below hb (Nat.le_refl _)).more (by omega))))
      refine wp_region_held_drew (S := fun w' => w'.heap[w.heap.size]? = some (.cells (pkA h r) 25 (0, 0)) ∧ w'.heap[w.heap.size + 1]? = some (.cells (dgA d) 32 (0, 0)) ∧ w'.heap[w.heap.size + 1 + 1]? = some (.cells (siA l (.slice sp1 n c1) (.slice sp2 m c2)) 41 (0, 0))) (by kernel_rfl) ⟨HKv0.out, HDv0.out, HSv0.out⟩ (fun hHeld => ?_)
      refine wpAnyH_ready (rs := [0]) (by kernel_rfl) (by simp) (AllReadyH.cons (o := _) rfl (fun K hK => ?_) AllReadyH.nil)
      go_simp
      with_reducible refine (HCA.out _ HBv0.out.drew (Nat.lt_of_lt_of_le hk0 (HBv0.out.drew).size)).mono ?_
      rintro e v1 ⟨rfl, hb⟩
      have HEv1 : Hid (Below v0.heap.size v0 v1) := (Below.refl _ _).drew.trans hb
      clear hb
      have HKv1 : Hid (v1.heap[w.heap.size]? = some (.cells (pkA h r) 25 (0, 0))) := (HEv1.out.block _ (by omega)).trans HKv0.out
      have HDv1 : Hid (v1.heap[w.heap.size + 1]? = some (.cells (dgA d) 32 (0, 0))) := (HEv1.out.block _ (by omega)).trans HDv0.out
      have HSv1 : Hid (v1.heap[w.heap.size + 1 + 1]? = some (.cells (siA l (.slice sp1 n c1) (.slice sp2 m c2)) 41 (0, 0))) := (HEv1.out.block _ (by omega)).trans HSv0.out
      have HBv1 : Hid (Below w.heap.size w v1) := HBv0.out.trans (HEv1.out.mono (by omega))
      have hsv1 : w.heap.size + 3 ≤ v1.heap.size := by have := HEv1.out.size; omega
      go_wp2_with fail
      refine hK.out _ _ ⟨HKv1.out, HDv1.out, HSv1.out⟩ (fun hHeld => ?_)
      clear hK K
      try simp only [Act.put, List.getElem_toArray, List.getElem_cons_succ, List.getElem_cons_zero, List.setIfInBounds_toArray, List.set_cons_zero, List.set_cons_succ]
      refine wpAnyH_take (i := 1) (oi := _) (v := ?v1n1) rfl (by kernel_rfl) (by kernel_rfl) (by kernel_rfl) (fun _ _ _ h => h) (Or.inl ⟨by rfl, ?hy1n1⟩) (by assumption) ?rest1n1
      case hy1n1 =>
        intro w' hSw
        go_simp
        try with_reducible rfl
      try simp only [Act.put, List.getElem_toArray, List.getElem_cons_succ, List.getElem_cons_zero, List.setIfInBounds_toArray, List.set_cons_zero, List.set_cons_succ]
      refine' wpAnyH_take (i := 2) (oi := _) (v := _) rfl (by kernel_rfl) (by kernel_rfl) (by kernel_rfl) (fun _ _ _ h => h) (yieldsIf_load_mid (by rfl) _ _ rfl _ _ rfl _ _ ?hS2n2 Tryd.underlying25 rfl (info_pkL HR16.out)) (by assumption) ?rest2n2
      case hS2n2 =>
        intro w' hSw
        exact row_rngK hSw.1
      try simp only [Act.put, List.getElem_toArray, List.getElem_cons_succ, List.getElem_cons_zero, List.setIfInBounds_toArray, List.set_cons_zero, List.set_cons_succ]
      refine' wpAnyH_take (i := 3) (oi := _) (v := _) rfl (by kernel_rfl) (by kernel_rfl) (by kernel_rfl) (fun _ _ _ h => h) (yieldsIf_load_mid (by rfl) _ _ rfl _ _ rfl _ _ ?hS3n3 Tryd.underlying41 rfl (info_siL l (.slice sp1 n c1) (.slice sp2 m c2))) (by assumption) ?rest3n3
      case hS3n3 =>
        intro w' hSw
        exact row_rngK hSw.2.2
      try simp only [Act.put, List.getElem_toArray, List.getElem_cons_succ, List.getElem_cons_zero, List.setIfInBounds_toArray, List.set_cons_zero, List.set_cons_succ]
      refine' wpAnyH_take (i := 5) (oi := _) (v := _) rfl (by kernel_rfl) (by kernel_rfl) (by kernel_rfl) (fun _ _ _ h => h) (yieldsIf_load_mid (by rfl) _ _ rfl _ _ rfl _ _ ?hS5n4 Tryd.underlying25 rfl (info_pkL HR16.out)) (by assumption) ?rest5n4
      case hS5n4 =>
        intro w' hSw
        exact row_rngK hSw.1
      try simp only [Act.put, List.getElem_toArray, List.getElem_cons_succ, List.getElem_cons_zero, List.setIfInBounds_toArray, List.set_cons_zero, List.set_cons_succ]
      refine' wpAnyH_take (i := 6) (oi := _) (v := _) rfl (by kernel_rfl) (by kernel_rfl) (by kernel_rfl) (fun _ _ _ h => h) (yieldsIf_load_mid (by rfl) _ _ rfl _ _ rfl _ _ ?hS6n5 Tryd.underlying41 rfl (info_siL l (.slice sp1 n c1) (.slice sp2 m c2))) (by assumption) ?rest6n5
      case hS6n5 =>
        intro w' hSw
        exact row_rngK hSw.2.2
      try simp only [Act.put, List.getElem_toArray, List.getElem_cons_succ, List.getElem_cons_zero, List.setIfInBounds_toArray, List.set_cons_zero, List.set_cons_succ]
      refine wpAnyH_ready (rs := [4]) (by kernel_rfl) (by simp) (AllReadyH.cons (o := _) rfl (fun K hK => ?_) AllReadyH.nil)
      go_simp
      with_reducible refine (HCS.out _).mono ?_
      rintro e v2 ⟨rfl, hb⟩
      have HEv2 : Hid (Below v1.heap.size v1 v2) := hb
      clear hb
      have HKv2 : Hid (v2.heap[w.heap.size]? = some (.cells (pkA h r) 25 (0, 0))) := (HEv2.out.block _ (by omega)).trans HKv1.out
      have HDv2 : Hid (v2.heap[w.heap.size + 1]? = some (.cells (dgA d) 32 (0, 0))) := (HEv2.out.block _ (by omega)).trans HDv1.out
      have HSv2 : Hid (v2.heap[w.heap.size + 1 + 1]? = some (.cells (siA l (.slice sp1 n c1) (.slice sp2 m c2)) 41 (0, 0))) := (HEv2.out.block _ (by omega)).trans HSv1.out
      have HBv2 : Hid (Below w.heap.size w v2) := HBv1.out.trans (HEv2.out.mono (by omega))
      have hsv2 : w.heap.size + 3 ≤ v2.heap.size := by have := HEv2.out.size; omega
      go_wp2_with fail
      refine hK.out _ _ ⟨HKv2.out, HDv2.out, HSv2.out⟩ (fun hHeld => ?_)
      clear hK K
      try simp only [Act.put, List.getElem_toArray, List.getElem_cons_succ, List.getElem_cons_zero, List.setIfInBounds_toArray, List.set_cons_zero, List.set_cons_succ]
      refine wpAnyH_ready (rs := [7]) (by kernel_rfl) (by simp) (AllReadyH.cons (o := _) rfl (fun K hK => ?_) AllReadyH.nil)
      go_simp
      with_reducible refine (HCT.out _).mono ?_
      rintro e v3 ⟨rfl, hb⟩
      have HEv3 : Hid (Below v2.heap.size v2 v3) := hb
      clear hb
      have HKv3 : Hid (v3.heap[w.heap.size]? = some (.cells (pkA h r) 25 (0, 0))) := (HEv3.out.block _ (by omega)).trans HKv2.out
      have HDv3 : Hid (v3.heap[w.heap.size + 1]? = some (.cells (dgA d) 32 (0, 0))) := (HEv3.out.block _ (by omega)).trans HDv2.out
      have HSv3 : Hid (v3.heap[w.heap.size + 1 + 1]? = some (.cells (siA l (.slice sp1 n c1) (.slice sp2 m c2)) 41 (0, 0))) := (HEv3.out.block _ (by omega)).trans HSv2.out
      have HBv3 : Hid (Below w.heap.size w v3) := HBv2.out.trans (HEv3.out.mono (by omega))
      have hsv3 : w.heap.size + 3 ≤ v3.heap.size := by have := HEv3.out.size; omega
      go_wp2_with fail
      refine hK.out _ _ ⟨HKv3.out, HDv3.out, HSv3.out⟩ (fun hHeld => ?_)
      clear hK K
      try simp only [Act.put, List.getElem_toArray, List.getElem_cons_succ, List.getElem_cons_zero, List.setIfInBounds_toArray, List.set_cons_zero, List.set_cons_succ]
      refine wpAnyH_take (i := 8) (oi := _) (v := ?v8n6) rfl (by kernel_rfl) (by kernel_rfl) (by kernel_rfl) (fun _ _ _ h => h) (Or.inl ⟨by rfl, ?hy8n6⟩) (by assumption) ?rest8n6
      case hy8n6 =>
        intro w' hSw
        go_simp
        try with_reducible rfl
      try simp only [Act.put, List.getElem_toArray, List.getElem_cons_succ, List.getElem_cons_zero, List.setIfInBounds_toArray, List.set_cons_zero, List.set_cons_succ]
      refine wpAnyH_take (i := 9) (oi := _) (v := ?v9n7) rfl (by kernel_rfl) (by kernel_rfl) (by kernel_rfl) (fun _ _ _ h => h) (Or.inl ⟨by rfl, ?hy9n7⟩) (by assumption) ?rest9n7
      case hy9n7 =>
        intro w' hSw
        go_simp
        try with_reducible rfl
      try simp only [Act.put, List.getElem_toArray, List.getElem_cons_succ, List.getElem_cons_zero, List.setIfInBounds_toArray, List.set_cons_zero, List.set_cons_succ]
      refine wpAnyH_take (i := 10) (oi := _) (v := ?v10n8) rfl (by kernel_rfl) (by kernel_rfl) (by kernel_rfl) (fun _ _ _ h => h) (Or.inl ⟨by rfl, ?hy10n8⟩) (by assumption) ?rest10n8
      case hy10n8 =>
        intro w' hSw
        go_simp
        try with_reducible rfl
      try simp only [Act.put, List.getElem_toArray, List.getElem_cons_succ, List.getElem_cons_zero, List.setIfInBounds_toArray, List.set_cons_zero, List.set_cons_succ]
      refine' wpAnyH_take (i := 11) (oi := _) (v := _) rfl (by kernel_rfl) (by kernel_rfl) (by kernel_rfl) (fun _ _ _ h => h) (yieldsIf_load_mid (by rfl) _ _ rfl _ _ rfl _ _ ?hS11n9 Tryd.underlying25 rfl (info_pkL HR16.out)) (by assumption) ?rest11n9
      case hS11n9 =>
        intro w' hSw
        exact row_rngK hSw.1
      try simp only [Act.put, List.getElem_toArray, List.getElem_cons_succ, List.getElem_cons_zero, List.setIfInBounds_toArray, List.set_cons_zero, List.set_cons_succ]
      refine' wpAnyH_take (i := 12) (oi := _) (v := _) rfl (by kernel_rfl) (by kernel_rfl) (by kernel_rfl) (fun _ _ _ h => h) (yieldsIf_load_mid (by rfl) _ _ rfl _ _ rfl _ _ ?hS12n10 Tryd.underlying32 rfl HID.out) (by assumption) ?rest12n10
      case hS12n10 =>
        intro w' hSw
        exact row_rngK hSw.2.1
      try simp only [Act.put, List.getElem_toArray, List.getElem_cons_succ, List.getElem_cons_zero, List.setIfInBounds_toArray, List.set_cons_zero, List.set_cons_succ]
      refine' wpAnyH_take (i := 13) (oi := _) (v := _) rfl (by kernel_rfl) (by kernel_rfl) (by kernel_rfl) (fun _ _ _ h => h) (yieldsIf_load_mid (by rfl) _ _ rfl _ _ rfl _ _ ?hS13n11 Tryd.underlying41 rfl (info_siL l (.slice sp1 n c1) (.slice sp2 m c2))) (by assumption) ?rest13n11
      case hS13n11 =>
        intro w' hSw
        exact row_rngK hSw.2.2
      try simp only [Act.put, List.getElem_toArray, List.getElem_cons_succ, List.getElem_cons_zero, List.setIfInBounds_toArray, List.set_cons_zero, List.set_cons_succ]
      refine' wpAnyH_take (i := 15) (oi := _) (v := _) rfl (by kernel_rfl) (by kernel_rfl) (by kernel_rfl) (fun _ _ _ h => h) (yieldsIf_load_mid (by rfl) _ _ rfl _ _ rfl _ _ ?hS15n12 Tryd.underlying25 rfl (info_pkL HR16.out)) (by assumption) ?rest15n12
      case hS15n12 =>
        intro w' hSw
        exact row_rngK hSw.1
      try simp only [Act.put, List.getElem_toArray, List.getElem_cons_succ, List.getElem_cons_zero, List.setIfInBounds_toArray, List.set_cons_zero, List.set_cons_succ]
      refine' wpAnyH_take (i := 16) (oi := _) (v := _) rfl (by kernel_rfl) (by kernel_rfl) (by kernel_rfl) (fun _ _ _ h => h) (yieldsIf_load_mid (by rfl) _ _ rfl _ _ rfl _ _ ?hS16n13 Tryd.underlying32 rfl HID.out) (by assumption) ?rest16n13
      case hS16n13 =>
        intro w' hSw
        exact row_rngK hSw.2.1
      try simp only [Act.put, List.getElem_toArray, List.getElem_cons_succ, List.getElem_cons_zero, List.setIfInBounds_toArray, List.set_cons_zero, List.set_cons_succ]
      refine' wpAnyH_take (i := 17) (oi := _) (v := _) rfl (by kernel_rfl) (by kernel_rfl) (by kernel_rfl) (fun _ _ _ h => h) (yieldsIf_load_mid (by rfl) _ _ rfl _ _ rfl _ _ ?hS17n14 Tryd.underlying41 rfl (info_siL l (.slice sp1 n c1) (.slice sp2 m c2))) (by assumption) ?rest17n14
      case hS17n14 =>
        intro w' hSw
        exact row_rngK hSw.2.2
      try simp only [Act.put, List.getElem_toArray, List.getElem_cons_succ, List.getElem_cons_zero, List.setIfInBounds_toArray, List.set_cons_zero, List.set_cons_succ]
      refine wpAnyH_ready (rs := [14]) (by kernel_rfl) (by simp) (AllReadyH.cons (o := _) rfl (fun K hK => ?_) AllReadyH.nil)
      go_simp
      with_reducible refine (HCV.out _ HBv3.out (by omega)).mono ?_
      rintro e v4 ⟨rfl, hb⟩
      have HEv4 : Hid (Below v3.heap.size v3 v4) := hb
      clear hb
      have HKv4 : Hid (v4.heap[w.heap.size]? = some (.cells (pkA h r) 25 (0, 0))) := (HEv4.out.block _ (by omega)).trans HKv3.out
      have HDv4 : Hid (v4.heap[w.heap.size + 1]? = some (.cells (dgA d) 32 (0, 0))) := (HEv4.out.block _ (by omega)).trans HDv3.out
      have HSv4 : Hid (v4.heap[w.heap.size + 1 + 1]? = some (.cells (siA l (.slice sp1 n c1) (.slice sp2 m c2)) 41 (0, 0))) := (HEv4.out.block _ (by omega)).trans HSv3.out
      have HBv4 : Hid (Below w.heap.size w v4) := HBv3.out.trans (HEv4.out.mono (by omega))
      have hsv4 : w.heap.size + 3 ≤ v4.heap.size := by have := HEv4.out.size; omega
      go_wp2_with fail
      refine hK.out _ _ ⟨HKv4.out, HDv4.out, HSv4.out⟩ (fun hHeld => ?_)
      clear hK K
      try simp only [Act.put, List.getElem_toArray, List.getElem_cons_succ, List.getElem_cons_zero, List.setIfInBounds_toArray, List.set_cons_zero, List.set_cons_succ]
      refine wpAnyH_ready (rs := [18]) (by kernel_rfl) (by simp) (AllReadyH.cons (o := _) rfl (fun K hK => ?_) AllReadyH.nil)
      go_simp
      with_reducible refine (HCW.out _ HBv4.out (by omega)).mono ?_
      rintro e v5 ⟨rfl, hb⟩
      have HEv5 : Hid (Below v4.heap.size v4 v5) := hb
      clear hb
      have HKv5 : Hid (v5.heap[w.heap.size]? = some (.cells (pkA h r) 25 (0, 0))) := (HEv5.out.block _ (by omega)).trans HKv4.out
      have HDv5 : Hid (v5.heap[w.heap.size + 1]? = some (.cells (dgA d) 32 (0, 0))) := (HEv5.out.block _ (by omega)).trans HDv4.out
      have HSv5 : Hid (v5.heap[w.heap.size + 1 + 1]? = some (.cells (siA l (.slice sp1 n c1) (.slice sp2 m c2)) 41 (0, 0))) := (HEv5.out.block _ (by omega)).trans HSv4.out
      have HBv5 : Hid (Below w.heap.size w v5) := HBv4.out.trans (HEv5.out.mono (by omega))
      have hsv5 : w.heap.size + 3 ≤ v5.heap.size := by have := HEv5.out.size; omega
      go_wp2_with fail
      refine hK.out _ _ ⟨HKv5.out, HDv5.out, HSv5.out⟩ (fun hHeld => ?_)
      clear hK K
      try simp only [Act.put, List.getElem_toArray, List.getElem_cons_succ, List.getElem_cons_zero, List.setIfInBounds_toArray, List.set_cons_zero, List.set_cons_succ]
      refine wpAnyH_take (i := 19) (oi := _) (v := ?v19n15) rfl (by kernel_rfl) (by kernel_rfl) (by kernel_rfl) (fun _ _ _ h => h) (Or.inl ⟨by rfl, ?hy19n15⟩) (by assumption) ?rest19n15
      case hy19n15 =>
        intro w' hSw
        go_simp
        try with_reducible rfl
      try simp only [Act.put, List.getElem_toArray, List.getElem_cons_succ, List.getElem_cons_zero, List.setIfInBounds_toArray, List.set_cons_zero, List.set_cons_succ]
      refine wpAnyH_take (i := 20) (oi := _) (v := ?v20n16) rfl (by kernel_rfl) (by kernel_rfl) (by kernel_rfl) (fun _ _ _ h => h) (Or.inl ⟨by rfl, ?hy20n16⟩) (by assumption) ?rest20n16
      case hy20n16 =>
        intro w' hSw
        go_simp
        try with_reducible rfl
      try simp only [Act.put, List.getElem_toArray, List.getElem_cons_succ, List.getElem_cons_zero, List.setIfInBounds_toArray, List.set_cons_zero, List.set_cons_succ]
      refine wpAnyH_take (i := 21) (oi := _) (v := ?v21n17) rfl (by kernel_rfl) (by kernel_rfl) (by kernel_rfl) (fun _ _ _ h => h) (Or.inl ⟨by rfl, ?hy21n17⟩) (by assumption) ?rest21n17
      case hy21n17 =>
        intro w' hSw
        go_simp
        try with_reducible rfl
      try simp only [Act.put, List.getElem_toArray, List.getElem_cons_succ, List.getElem_cons_zero, List.setIfInBounds_toArray, List.set_cons_zero, List.set_cons_succ]
      refine wpAnyH_done (by kernel_rfl) ?_ _
      go_wp2_with fail
      go_ret
      exact ⟨rfl, HBv5.out⟩
end Go.Proofs.YthbcpcddanknhaaDoor
