/-
  The walk of KeytreeKeys (conditions: the arguments read as a half, a number and a public key; the table of constants reads as it is laid).
-/
import Derived.Test.YthbcpcddanknhaaDoorGt
import Derived.Deep.DeepCutAuto
namespace Go.Proofs.YthbcpcddanknhaaDoor
open Go.RowKit Go.Proofs.YthbcpcddanknhaaDoor.One

theorem eqDgK (l : List Int) (w : World) : (Op.equalIn 10000 32 (.agg (dg l)) (.agg (dg l))).run Tryd.prog w = .ok true w := by
  have hX : (dbytes (sha l).list).length = 32 := by simp [dbytes_length, St.list_length]
  have hc : Tryd.prog.cellsOf 5 = 1 := by kernel_rfl
  obtain ⟨i, hi⟩ : ∃ i, Tryd.prog.info? 5 = some i := Option.isSome_iff_exists.1 (by kernel_rfl)
  have h := run_equalIn_array (P := Tryd.prog) w 9999 (dg l) (dg l) Tryd.underlying32 hi
  rw [hc] at h
  have e := eq_items 9998 (dbytes (sha l).list) (dbytes (sha l).list) (List.range 32) w (fun j hj => by rw [hX]; simpa using hj)
  have r := all_range_eq (dbytes (sha l).list) (dbytes (sha l).list) rfl
  rw [hX] at r
  rw [r] at e
  rw [show dg l = ((dbytes (sha l).list).map (Value.int .u8)).toArray from rfl] at h ⊢
  rw [e] at h
  rw [h, decide_eq_true rfl]
theorem eqIn_halfJ {X : List Int} (hX : H16 X) (w : World) : (Op.equalIn 10000 23 (.agg (hvA X)) (.agg (hvA X))).run Tryd.prog w = .ok true w := eqIn_halfK hX.1 9998 w
/-- the boxes of the law: the seed, the key that was given, and one more key -/
structure KkA (w : World) (x : List Int) (ph : Int) (pr : List Int) (w0 : World) : Prop where
  x : w0.heap[w.heap.size]? = some (.cells (hvA x) 23 (0, 0))
  p : w0.heap[w.heap.size + 1]? = some (.cells (pkA ph pr) 25 (0, 0))
  b : Below w.heap.size w w0
  s : w.heap.size + 2 ≤ w0.heap.size
theorem KkA.new (w : World) (x : List Int) (ph : Int) (pr : List Int) : KkA w x ph pr ((w.alloc (.cells (hvA x) 23)).alloc (.cells (pkA ph pr) 25)) :=
  ⟨(heap_alloc_old _ _ (by simp)).trans (heap_alloc_new w _), by have h := heap_alloc_new (w.alloc (.cells (hvA x) 23)) (.cells (pkA ph pr) 25); rw [World.size_alloc] at h; exact h, ((Below.refl _ _).alloc (Nat.le_refl _) _).alloc (by simp) _, by simp⟩
structure KkB (w : World) (x : List Int) (ph : Int) (pr : List Int) (h g : Nat) (w0 w1 : World) : Prop where
  a : KkA w x ph pr w1
  k : w1.heap[g]? = some (.cells (pkA h (nodK x h 0)) 25 (0, 0))
  e : Below w0.heap.size w0 w1
  i : w0.heap.size ≤ g ∧ g < w1.heap.size
set_option maxRecDepth 100000 in
set_option maxHeartbeats 8000000 in
theorem keytreeKeys_any (x : List Int) (hg : Int) (ph : Int) (pr : List Int) (w : World) (hx : H16 x) (hp : H16 pr) (hk : KayIn w) (hk0 : 0 < w.heap.size) :
    Calls Tryd.prog 3 #[.agg (hvA x), .int .i64 hg, .agg (pkA ph pr)] w fun e w' => e = .returned (.bool true) ∧ Below w.heap.size w w' := by
  obtain ⟨h, hh⟩ : ∃ h : Nat, hg % 3 = (h : Int) := ⟨(hg % 3).toNat, by omega⟩
  have h2 : h ≤ 2 := by omega
  have HHG := Lib.hid hh
  have HX := Lib.hid hx; have HP := Lib.hid hp; have HK := Lib.hid hk
  have HIX := Lib.hid (info_h2' hx); have HIP := Lib.hid (info_h2' hp)
  clear hx hp hk hh
  have HNK := Lib.hid (nodK_H16 x h 0)
  have HT := Lib.hid (KkA.new w x ph pr)
  go_enter Tryd.func3, Tryd.ntmps3
  go_upto_region 1 with (fail)
  generalize hw0 : World.alloc (World.alloc w _) _ = w0
  have HA0 : Hid (KkA w x ph pr w0) := by rw [← hw0]; exact HT.out
  clear hw0 HT
  have HSX : Hid (w0.rangeAt w.heap.size 0 (x.map (Value.int .u8))) := row_rngK HA0.out.x
  have hsw0 := HA0.out.s
  have HCN := Lib.hid (fun w' (hb : Below w0.heap.size w0 w') => (show Calls Tryd.prog 9 #[.agg (x.map (Value.int .u8)).toArray, .int .i64 (h : Int)] w' fun e w'' => e = .returned (.tuple #[.agg (pkA h (nodK x h 0)), .int .i64 0]) ∧ Below w'.heap.size w' w'' from new_any x h w' HX.out (by omega) (HK.out.below (HA0.out.b.trans (hb.mono (by have := HA0.out.s; omega))) hk0) (by have := hb.size; have := HA0.out.s; omega)))
  go_cut [7, 8] (fun s1 s2 wx => ∃ g : Nat, s1 = .pointer (some ⟨g, 0, none⟩) ∧ s2 = .int .i64 0 ∧ Hid (KkB w x ph pr h g w0 wx))
  case first =>
    as_aux_lemma =>
      refine wp_region_held_drew (S := fun w' => w'.rangeAt w.heap.size 0 (x.map (Value.int .u8))) (by kernel_rfl) HSX.out (fun hHeld => ?_)
      refine' wpAnyH_take (i := 0) (oi := _) (v := _) rfl (by kernel_rfl) (by kernel_rfl) (by kernel_rfl) (fun _ _ _ h => h) (yieldsIf_load_mid (by rfl) _ _ rfl _ _ rfl _ _ ?hS0n13 Tryd.underlying23 rfl HIX.out) (by assumption) ?rest0n13
      case hS0n13 =>
        intro w' hSw
        exact hSw
      try simp only [Act.put, List.getElem_toArray, List.getElem_cons_succ, List.getElem_cons_zero, List.setIfInBounds_toArray, List.set_cons_zero, List.set_cons_succ]
      refine wpAnyH_take (i := 1) (oi := _) (v := ?v1n14) rfl (by kernel_rfl) (by kernel_rfl) (by kernel_rfl) (fun _ _ _ h => h) (Or.inl ⟨by rfl, ?hy1n14⟩) (by assumption) ?rest1n14
      case hy1n14 =>
        intro w' hSw
        go_simp
        try with_reducible rfl
      try simp only [Act.put, List.getElem_toArray, List.getElem_cons_succ, List.getElem_cons_zero, List.setIfInBounds_toArray, List.set_cons_zero, List.set_cons_succ]
      refine wpAnyH_ready (rs := [2, 7]) (by kernel_rfl) (by simp) (AllReadyH.cons (o := _) rfl (fun K hK => ?_) (AllReadyH.cons (o := _) rfl (fun K hK => ?_) AllReadyH.nil))
      · go_simp
        with_reducible refine (low_any hg _).mono ?_
        rintro e w' ⟨rfl, rfl⟩
        rw [HHG.out]
        go_wp2_with fail
        refine hK.out _ _ HSX.out (fun hHeld => ?_)
        clear hK K
        try simp only [Act.put, List.getElem_toArray, List.getElem_cons_succ, List.getElem_cons_zero, List.setIfInBounds_toArray, List.set_cons_zero, List.set_cons_succ]
        refine wpAnyH_ready (rs := [3, 7]) (by kernel_rfl) (by simp) (AllReadyH.cons (o := _) rfl (fun K hK => ?_) (AllReadyH.cons (o := _) rfl (fun K hK => ?_) AllReadyH.nil))
        · go_simp
          with_reducible refine (HCN.out _ (Below.refl _ _).drew).mono ?_
          rintro e v1 ⟨rfl, hb⟩
          have HEv1 : Hid (Below w0.heap.size w0 v1) := (Below.refl _ _).drew.trans hb
          clear hb
          go_wp2_with fail
          refine hK.out _ _ (range_belowG HSX.out HEv1.out (by omega)) (fun hHeld => ?_)
          clear hK K
          try simp only [Act.put, List.getElem_toArray, List.getElem_cons_succ, List.getElem_cons_zero, List.setIfInBounds_toArray, List.set_cons_zero, List.set_cons_succ]
          refine wpAnyH_take (i := 4) (oi := _) (v := ?v4n1) rfl (by kernel_rfl) (by kernel_rfl) (by kernel_rfl) (fun _ _ _ h => h) (Or.inl ⟨by rfl, ?hy4n1⟩) (by assumption) ?rest4n1
          case hy4n1 =>
            intro w' hSw
            go_simp
            try with_reducible rfl
          try simp only [Act.put, List.getElem_toArray, List.getElem_cons_succ, List.getElem_cons_zero, List.setIfInBounds_toArray, List.set_cons_zero, List.set_cons_succ]
          refine wpAnyH_take (i := 5) (oi := _) (v := ?v5n2) rfl (by kernel_rfl) (by kernel_rfl) (by kernel_rfl) (fun _ _ _ h => h) (Or.inl ⟨by rfl, ?hy5n2⟩) (by assumption) ?rest5n2
          case hy5n2 =>
            intro w' hSw
            go_simp
            try with_reducible rfl
          try simp only [Act.put, List.getElem_toArray, List.getElem_cons_succ, List.getElem_cons_zero, List.setIfInBounds_toArray, List.set_cons_zero, List.set_cons_succ]
          refine wpAnyH_take (i := 6) (oi := _) (v := ?v6n3) rfl (by kernel_rfl) (by kernel_rfl) (by kernel_rfl) (fun _ _ _ h => h) (Or.inl ⟨by rfl, ?hy6n3⟩) (by assumption) ?rest6n3
          case hy6n3 =>
            intro w' hSw
            go_simp
            try with_reducible rfl
          try simp only [Act.put, List.getElem_toArray, List.getElem_cons_succ, List.getElem_cons_zero, List.setIfInBounds_toArray, List.set_cons_zero, List.set_cons_succ]
          refine wpAnyH_ready (rs := [7]) (by kernel_rfl) (by simp) (AllReadyH.cons (o := _) rfl (fun K hK => ?_) AllReadyH.nil)
          have HO := Lib.hid (heap_alloc_new v1 (.cells (pkA 0 zh16) 25))
          have HQ := Lib.hid (below_alloc v1 (.cells (pkA 0 zh16) 25))
          have HN := Lib.hid (alloc_size v1 (.cells (pkA 0 zh16) 25))
          go_simp
          generalize hw : World.alloc v1 _ = v2
          obtain ⟨gz, hgz⟩ : ∃ g, g = v1.heap.size := ⟨_, rfl⟩
          rw [← hgz]
          have HZv2 : Hid (v2.heap[gz]? = some (.cells (pkA 0 zh16) 25 (0, 0))) := by rw [hgz, ← hw]; exact HO.out
          have hzv2 : gz < v2.heap.size := by rw [hgz, ← hw]; exact Nat.lt_of_lt_of_eq (Nat.lt_succ_self _) HN.out.symm
          have HEv2 : Hid (Below w0.heap.size w0 v2) := HEv1.out.trans ((show Below v1.heap.size v1 v2 from by rw [← hw]; exact HQ.out).mono HEv1.out.size)
          have hgz0 : w0.heap.size ≤ gz := by have := HEv1.out.size; omega
          clear hw HO HQ HN hgz
          refine hK.out _ _ (range_belowG HSX.out HEv2.out (by omega)) (fun hHeld => ?_)
          clear hK K
          try simp only [Act.put, List.getElem_toArray, List.getElem_cons_succ, List.getElem_cons_zero, List.setIfInBounds_toArray, List.set_cons_zero, List.set_cons_succ]
          refine wpAnyH_ready (rs := [8]) (by kernel_rfl) (by simp) (AllReadyH.cons (o := _) rfl (fun K hK => ?_) AllReadyH.nil)
          rw [if_pos (by rfl)]
          refine wp_store_row 25 _ _ rfl gz (pkA (h : Int) (nodK x h 0)) rfl rfl 25 _ HZv2.out (info_pk HNK.out) (by rw [pkA_size HNK.out, pkA_size zh16_H16]) (one_pk _ _) ?_
          generalize hw : World.setRow v2 _ _ = wy
          have HKy : Hid (wy.heap[gz]? = some (.cells (pkA (h : Int) (nodK x h 0)) 25 (0, 0))) := by rw [← hw]; exact setRow_heap _ _ _ _ _ _ HZv2.out
          have HEy : Hid (Below w0.heap.size w0 wy) := by rw [← hw]; exact below_setRow HEv2.out (by omega) _
          have hzy : gz < wy.heap.size := by rw [← hw]; simp [World.setRow]; omega
          clear hw
          skip
          refine hK.out _ _ (range_belowG HSX.out HEy.out (by omega)) (fun hHeld => ?_)
          clear hK K
          try simp only [Act.put, List.getElem_toArray, List.getElem_cons_succ, List.getElem_cons_zero, List.setIfInBounds_toArray, List.set_cons_zero, List.set_cons_succ]
          refine wpAnyH_take (i := 9) (oi := _) (v := ?v9n4) rfl (by kernel_rfl) (by kernel_rfl) (by kernel_rfl) (fun _ _ _ h => h) (Or.inl ⟨by rfl, ?hy9n4⟩) (by assumption) ?rest9n4
          case hy9n4 =>
            intro w' hSw
            go_simp
            try with_reducible rfl
          try simp only [Act.put, List.getElem_toArray, List.getElem_cons_succ, List.getElem_cons_zero, List.setIfInBounds_toArray, List.set_cons_zero, List.set_cons_succ]
          refine wpAnyH_done (by kernel_rfl) ?_ _
          go_wp2_with fail
          go_meet
          exact ⟨gz, rfl, rfl, ⟨(HEy.out.block _ (by have := HA0.out.s; omega)).trans HA0.out.x, (HEy.out.block _ (by have := HA0.out.s; omega)).trans HA0.out.p, HA0.out.b.trans (HEy.out.mono (by have := HA0.out.s; omega)), by have := HA0.out.s; have := HEy.out.size; omega⟩, HKy.out, HEy.out, by omega, by omega⟩
        · have HO := Lib.hid (heap_alloc_new w0 (.cells (pkA 0 zh16) 25))
          have HQ := Lib.hid (below_alloc w0 (.cells (pkA 0 zh16) 25))
          have HN := Lib.hid (alloc_size w0 (.cells (pkA 0 zh16) 25))
          go_simp
          generalize hw : World.drew (World.alloc w0 _) = v1
          obtain ⟨gz, hgz⟩ : ∃ g, g = w0.heap.size := ⟨_, rfl⟩
          rw [← hgz]
          have HZv1 : Hid (v1.heap[gz]? = some (.cells (pkA 0 zh16) 25 (0, 0))) := by rw [hgz, ← hw]; exact HO.out
          have hzv1 : gz < v1.heap.size := by rw [hgz, ← hw]; exact Nat.lt_of_lt_of_eq (Nat.lt_succ_self _) HN.out.symm
          have HEv1 : Hid (Below w0.heap.size w0 v1) := (by rw [← hw]; exact HQ.out.drew)
          have hgz0 : w0.heap.size ≤ gz := by omega
          clear hw HO HQ HN hgz
          refine hK.out _ _ (range_belowG HSX.out HEv1.out (by omega)) (fun hHeld => ?_)
          clear hK K
          try simp only [Act.put, List.getElem_toArray, List.getElem_cons_succ, List.getElem_cons_zero, List.setIfInBounds_toArray, List.set_cons_zero, List.set_cons_succ]
          refine wpAnyH_ready (rs := [3]) (by kernel_rfl) (by simp) (AllReadyH.cons (o := _) rfl (fun K hK => ?_) AllReadyH.nil)
          go_simp
          with_reducible refine (HCN.out _ HEv1.out).mono ?_
          rintro e v2 ⟨rfl, hb⟩
          have HEv2 : Hid (Below w0.heap.size w0 v2) := HEv1.out.trans (hb.mono HEv1.out.size)
          have HZv2 : Hid (v2.heap[gz]? = some (.cells (pkA 0 zh16) 25 (0, 0))) := (hb.block _ (by omega)).trans HZv1.out
          have hzv2 : gz < v2.heap.size := by have := hb.size; omega
          clear hb
          go_wp2_with fail
          refine hK.out _ _ (range_belowG HSX.out HEv2.out (by omega)) (fun hHeld => ?_)
          clear hK K
          try simp only [Act.put, List.getElem_toArray, List.getElem_cons_succ, List.getElem_cons_zero, List.setIfInBounds_toArray, List.set_cons_zero, List.set_cons_succ]
          refine wpAnyH_take (i := 4) (oi := _) (v := ?v4n5) rfl (by kernel_rfl) (by kernel_rfl) (by kernel_rfl) (fun _ _ _ h => h) (Or.inl ⟨by rfl, ?hy4n5⟩) (by assumption) ?rest4n5
          case hy4n5 =>
            intro w' hSw
            go_simp
            try with_reducible rfl
          try simp only [Act.put, List.getElem_toArray, List.getElem_cons_succ, List.getElem_cons_zero, List.setIfInBounds_toArray, List.set_cons_zero, List.set_cons_succ]
          refine wpAnyH_take (i := 5) (oi := _) (v := ?v5n6) rfl (by kernel_rfl) (by kernel_rfl) (by kernel_rfl) (fun _ _ _ h => h) (Or.inl ⟨by rfl, ?hy5n6⟩) (by assumption) ?rest5n6
          case hy5n6 =>
            intro w' hSw
            go_simp
            try with_reducible rfl
          try simp only [Act.put, List.getElem_toArray, List.getElem_cons_succ, List.getElem_cons_zero, List.setIfInBounds_toArray, List.set_cons_zero, List.set_cons_succ]
          refine wpAnyH_take (i := 6) (oi := _) (v := ?v6n7) rfl (by kernel_rfl) (by kernel_rfl) (by kernel_rfl) (fun _ _ _ h => h) (Or.inl ⟨by rfl, ?hy6n7⟩) (by assumption) ?rest6n7
          case hy6n7 =>
            intro w' hSw
            go_simp
            try with_reducible rfl
          try simp only [Act.put, List.getElem_toArray, List.getElem_cons_succ, List.getElem_cons_zero, List.setIfInBounds_toArray, List.set_cons_zero, List.set_cons_succ]
          refine wpAnyH_ready (rs := [8]) (by kernel_rfl) (by simp) (AllReadyH.cons (o := _) rfl (fun K hK => ?_) AllReadyH.nil)
          rw [if_pos (by rfl)]
          refine wp_store_row 25 _ _ rfl gz (pkA (h : Int) (nodK x h 0)) rfl rfl 25 _ HZv2.out (info_pk HNK.out) (by rw [pkA_size HNK.out, pkA_size zh16_H16]) (one_pk _ _) ?_
          generalize hw : World.setRow v2 _ _ = wy
          have HKy : Hid (wy.heap[gz]? = some (.cells (pkA (h : Int) (nodK x h 0)) 25 (0, 0))) := by rw [← hw]; exact setRow_heap _ _ _ _ _ _ HZv2.out
          have HEy : Hid (Below w0.heap.size w0 wy) := by rw [← hw]; exact below_setRow HEv2.out (by omega) _
          have hzy : gz < wy.heap.size := by rw [← hw]; simp [World.setRow]; omega
          clear hw
          skip
          refine hK.out _ _ (range_belowG HSX.out HEy.out (by omega)) (fun hHeld => ?_)
          clear hK K
          try simp only [Act.put, List.getElem_toArray, List.getElem_cons_succ, List.getElem_cons_zero, List.setIfInBounds_toArray, List.set_cons_zero, List.set_cons_succ]
          refine wpAnyH_take (i := 9) (oi := _) (v := ?v9n8) rfl (by kernel_rfl) (by kernel_rfl) (by kernel_rfl) (fun _ _ _ h => h) (Or.inl ⟨by rfl, ?hy9n8⟩) (by assumption) ?rest9n8
          case hy9n8 =>
            intro w' hSw
            go_simp
            try with_reducible rfl
          try simp only [Act.put, List.getElem_toArray, List.getElem_cons_succ, List.getElem_cons_zero, List.setIfInBounds_toArray, List.set_cons_zero, List.set_cons_succ]
          refine wpAnyH_done (by kernel_rfl) ?_ _
          go_wp2_with fail
          go_meet
          exact ⟨gz, rfl, rfl, ⟨(HEy.out.block _ (by have := HA0.out.s; omega)).trans HA0.out.x, (HEy.out.block _ (by have := HA0.out.s; omega)).trans HA0.out.p, HA0.out.b.trans (HEy.out.mono (by have := HA0.out.s; omega)), by have := HA0.out.s; have := HEy.out.size; omega⟩, HKy.out, HEy.out, by omega, by omega⟩
      · have HO := Lib.hid (heap_alloc_new w0 (.cells (pkA 0 zh16) 25))
        have HQ := Lib.hid (below_alloc w0 (.cells (pkA 0 zh16) 25))
        have HN := Lib.hid (alloc_size w0 (.cells (pkA 0 zh16) 25))
        go_simp
        generalize hw : World.drew (World.alloc w0 _) = v1
        obtain ⟨gz, hgz⟩ : ∃ g, g = w0.heap.size := ⟨_, rfl⟩
        rw [← hgz]
        have HZv1 : Hid (v1.heap[gz]? = some (.cells (pkA 0 zh16) 25 (0, 0))) := by rw [hgz, ← hw]; exact HO.out
        have hzv1 : gz < v1.heap.size := by rw [hgz, ← hw]; exact Nat.lt_of_lt_of_eq (Nat.lt_succ_self _) HN.out.symm
        have HEv1 : Hid (Below w0.heap.size w0 v1) := (by rw [← hw]; exact HQ.out.drew)
        have hgz0 : w0.heap.size ≤ gz := by omega
        clear hw HO HQ HN hgz
        refine hK.out _ _ (range_belowG HSX.out HEv1.out (by omega)) (fun hHeld => ?_)
        clear hK K
        try simp only [Act.put, List.getElem_toArray, List.getElem_cons_succ, List.getElem_cons_zero, List.setIfInBounds_toArray, List.set_cons_zero, List.set_cons_succ]
        refine wpAnyH_ready (rs := [2]) (by kernel_rfl) (by simp) (AllReadyH.cons (o := _) rfl (fun K hK => ?_) AllReadyH.nil)
        go_simp
        with_reducible refine (low_any hg _).mono ?_
        rintro e w' ⟨rfl, rfl⟩
        rw [HHG.out]
        go_wp2_with fail
        refine hK.out _ _ (range_belowG HSX.out HEv1.out (by omega)) (fun hHeld => ?_)
        clear hK K
        try simp only [Act.put, List.getElem_toArray, List.getElem_cons_succ, List.getElem_cons_zero, List.setIfInBounds_toArray, List.set_cons_zero, List.set_cons_succ]
        refine wpAnyH_ready (rs := [3]) (by kernel_rfl) (by simp) (AllReadyH.cons (o := _) rfl (fun K hK => ?_) AllReadyH.nil)
        go_simp
        with_reducible refine (HCN.out _ HEv1.out).mono ?_
        rintro e v2 ⟨rfl, hb⟩
        have HEv2 : Hid (Below w0.heap.size w0 v2) := HEv1.out.trans (hb.mono HEv1.out.size)
        have HZv2 : Hid (v2.heap[gz]? = some (.cells (pkA 0 zh16) 25 (0, 0))) := (hb.block _ (by omega)).trans HZv1.out
        have hzv2 : gz < v2.heap.size := by have := hb.size; omega
        clear hb
        go_wp2_with fail
        refine hK.out _ _ (range_belowG HSX.out HEv2.out (by omega)) (fun hHeld => ?_)
        clear hK K
        try simp only [Act.put, List.getElem_toArray, List.getElem_cons_succ, List.getElem_cons_zero, List.setIfInBounds_toArray, List.set_cons_zero, List.set_cons_succ]
        refine wpAnyH_take (i := 4) (oi := _) (v := ?v4n9) rfl (by kernel_rfl) (by kernel_rfl) (by kernel_rfl) (fun _ _ _ h => h) (Or.inl ⟨by rfl, ?hy4n9⟩) (by assumption) ?rest4n9
        case hy4n9 =>
          intro w' hSw
          go_simp
          try with_reducible rfl
        try simp only [Act.put, List.getElem_toArray, List.getElem_cons_succ, List.getElem_cons_zero, List.setIfInBounds_toArray, List.set_cons_zero, List.set_cons_succ]
        refine wpAnyH_take (i := 5) (oi := _) (v := ?v5n10) rfl (by kernel_rfl) (by kernel_rfl) (by kernel_rfl) (fun _ _ _ h => h) (Or.inl ⟨by rfl, ?hy5n10⟩) (by assumption) ?rest5n10
        case hy5n10 =>
          intro w' hSw
          go_simp
          try with_reducible rfl
        try simp only [Act.put, List.getElem_toArray, List.getElem_cons_succ, List.getElem_cons_zero, List.setIfInBounds_toArray, List.set_cons_zero, List.set_cons_succ]
        refine wpAnyH_take (i := 6) (oi := _) (v := ?v6n11) rfl (by kernel_rfl) (by kernel_rfl) (by kernel_rfl) (fun _ _ _ h => h) (Or.inl ⟨by rfl, ?hy6n11⟩) (by assumption) ?rest6n11
        case hy6n11 =>
          intro w' hSw
          go_simp
          try with_reducible rfl
        try simp only [Act.put, List.getElem_toArray, List.getElem_cons_succ, List.getElem_cons_zero, List.setIfInBounds_toArray, List.set_cons_zero, List.set_cons_succ]
        refine wpAnyH_ready (rs := [8]) (by kernel_rfl) (by simp) (AllReadyH.cons (o := _) rfl (fun K hK => ?_) AllReadyH.nil)
        rw [if_pos (by rfl)]
        refine wp_store_row 25 _ _ rfl gz (pkA (h : Int) (nodK x h 0)) rfl rfl 25 _ HZv2.out (info_pk HNK.out) (by rw [pkA_size HNK.out, pkA_size zh16_H16]) (one_pk _ _) ?_
        generalize hw : World.setRow v2 _ _ = wy
        have HKy : Hid (wy.heap[gz]? = some (.cells (pkA (h : Int) (nodK x h 0)) 25 (0, 0))) := by rw [← hw]; exact setRow_heap _ _ _ _ _ _ HZv2.out
        have HEy : Hid (Below w0.heap.size w0 wy) := by rw [← hw]; exact below_setRow HEv2.out (by omega) _
        have hzy : gz < wy.heap.size := by rw [← hw]; simp [World.setRow]; omega
        clear hw
        skip
        refine hK.out _ _ (range_belowG HSX.out HEy.out (by omega)) (fun hHeld => ?_)
        clear hK K
        try simp only [Act.put, List.getElem_toArray, List.getElem_cons_succ, List.getElem_cons_zero, List.setIfInBounds_toArray, List.set_cons_zero, List.set_cons_succ]
        refine wpAnyH_take (i := 9) (oi := _) (v := ?v9n12) rfl (by kernel_rfl) (by kernel_rfl) (by kernel_rfl) (fun _ _ _ h => h) (Or.inl ⟨by rfl, ?hy9n12⟩) (by assumption) ?rest9n12
        case hy9n12 =>
          intro w' hSw
          go_simp
          try with_reducible rfl
        try simp only [Act.put, List.getElem_toArray, List.getElem_cons_succ, List.getElem_cons_zero, List.setIfInBounds_toArray, List.set_cons_zero, List.set_cons_succ]
        refine wpAnyH_done (by kernel_rfl) ?_ _
        go_wp2_with fail
        go_meet
        exact ⟨gz, rfl, rfl, ⟨(HEy.out.block _ (by have := HA0.out.s; omega)).trans HA0.out.x, (HEy.out.block _ (by have := HA0.out.s; omega)).trans HA0.out.p, HA0.out.b.trans (HEy.out.mono (by have := HA0.out.s; omega)), by have := HA0.out.s; have := HEy.out.size; omega⟩, HKy.out, HEy.out, by omega, by omega⟩
  case rest =>
  obtain ⟨g7, rfl, rfl, HB1⟩ := hcut
  clear HA0 HSX HCN
  go_upto_region 2 with (fail)
  generalize hwa : wc = wa at *
  clear hwa
  have HA1 : Hid (KkA w x ph pr wa) := HB1.out.a
  have HSX : Hid (wa.rangeAt w.heap.size 0 (x.map (Value.int .u8))) := row_rngK HA1.out.x
  have hswa := HA1.out.s
  have HCN := Lib.hid (fun w' (hb : Below wa.heap.size wa w') => (show Calls Tryd.prog 11 #[.agg (x.map (Value.int .u8)).toArray, .int .i64 (h : Int)] w' fun e w'' => e = .returned (.tuple #[.agg (pkA h (nodK x h 0)), .int .i64 0]) ∧ Below w'.heap.size w' w'' from rnew_any x h w' HX.out (by omega)))
  go_cut [9, 10] (fun s1 s2 wx => ∃ g : Nat, s1 = .pointer (some ⟨g, 0, none⟩) ∧ s2 = .int .i64 0 ∧ Hid (KkB w x ph pr h g wa wx))
  case first =>
    as_aux_lemma =>
      refine wp_region_held_drew (S := fun w' => w'.rangeAt w.heap.size 0 (x.map (Value.int .u8))) (by kernel_rfl) HSX.out (fun hHeld => ?_)
      refine' wpAnyH_take (i := 0) (oi := _) (v := _) rfl (by kernel_rfl) (by kernel_rfl) (by kernel_rfl) (fun _ _ _ h => h) (yieldsIf_load_mid (by rfl) _ _ rfl _ _ rfl _ _ ?hS0n27 Tryd.underlying23 rfl HIX.out) (by assumption) ?rest0n27
      case hS0n27 =>
        intro w' hSw
        exact hSw
      try simp only [Act.put, List.getElem_toArray, List.getElem_cons_succ, List.getElem_cons_zero, List.setIfInBounds_toArray, List.set_cons_zero, List.set_cons_succ]
      refine wpAnyH_take (i := 1) (oi := _) (v := ?v1n28) rfl (by kernel_rfl) (by kernel_rfl) (by kernel_rfl) (fun _ _ _ h => h) (Or.inl ⟨by rfl, ?hy1n28⟩) (by assumption) ?rest1n28
      case hy1n28 =>
        intro w' hSw
        go_simp
        try with_reducible rfl
      try simp only [Act.put, List.getElem_toArray, List.getElem_cons_succ, List.getElem_cons_zero, List.setIfInBounds_toArray, List.set_cons_zero, List.set_cons_succ]
      refine wpAnyH_ready (rs := [2, 7]) (by kernel_rfl) (by simp) (AllReadyH.cons (o := _) rfl (fun K hK => ?_) (AllReadyH.cons (o := _) rfl (fun K hK => ?_) AllReadyH.nil))
      · go_simp
        with_reducible refine (low_any hg _).mono ?_
        rintro e w' ⟨rfl, rfl⟩
        rw [HHG.out]
        go_wp2_with fail
        refine hK.out _ _ HSX.out (fun hHeld => ?_)
        clear hK K
        try simp only [Act.put, List.getElem_toArray, List.getElem_cons_succ, List.getElem_cons_zero, List.setIfInBounds_toArray, List.set_cons_zero, List.set_cons_succ]
        refine wpAnyH_ready (rs := [3, 7]) (by kernel_rfl) (by simp) (AllReadyH.cons (o := _) rfl (fun K hK => ?_) (AllReadyH.cons (o := _) rfl (fun K hK => ?_) AllReadyH.nil))
        · go_simp
          with_reducible refine (HCN.out _ (Below.refl _ _).drew).mono ?_
          rintro e v1 ⟨rfl, hb⟩
          have HEv1 : Hid (Below wa.heap.size wa v1) := (Below.refl _ _).drew.trans hb
          clear hb
          go_wp2_with fail
          refine hK.out _ _ (range_belowG HSX.out HEv1.out (by omega)) (fun hHeld => ?_)
          clear hK K
          try simp only [Act.put, List.getElem_toArray, List.getElem_cons_succ, List.getElem_cons_zero, List.setIfInBounds_toArray, List.set_cons_zero, List.set_cons_succ]
          refine wpAnyH_take (i := 4) (oi := _) (v := ?v4n15) rfl (by kernel_rfl) (by kernel_rfl) (by kernel_rfl) (fun _ _ _ h => h) (Or.inl ⟨by rfl, ?hy4n15⟩) (by assumption) ?rest4n15
          case hy4n15 =>
            intro w' hSw
            go_simp
            try with_reducible rfl
          try simp only [Act.put, List.getElem_toArray, List.getElem_cons_succ, List.getElem_cons_zero, List.setIfInBounds_toArray, List.set_cons_zero, List.set_cons_succ]
          refine wpAnyH_take (i := 5) (oi := _) (v := ?v5n16) rfl (by kernel_rfl) (by kernel_rfl) (by kernel_rfl) (fun _ _ _ h => h) (Or.inl ⟨by rfl, ?hy5n16⟩) (by assumption) ?rest5n16
          case hy5n16 =>
            intro w' hSw
            go_simp
            try with_reducible rfl
          try simp only [Act.put, List.getElem_toArray, List.getElem_cons_succ, List.getElem_cons_zero, List.setIfInBounds_toArray, List.set_cons_zero, List.set_cons_succ]
          refine wpAnyH_take (i := 6) (oi := _) (v := ?v6n17) rfl (by kernel_rfl) (by kernel_rfl) (by kernel_rfl) (fun _ _ _ h => h) (Or.inl ⟨by rfl, ?hy6n17⟩) (by assumption) ?rest6n17
          case hy6n17 =>
            intro w' hSw
            go_simp
            try with_reducible rfl
          try simp only [Act.put, List.getElem_toArray, List.getElem_cons_succ, List.getElem_cons_zero, List.setIfInBounds_toArray, List.set_cons_zero, List.set_cons_succ]
          refine wpAnyH_ready (rs := [7]) (by kernel_rfl) (by simp) (AllReadyH.cons (o := _) rfl (fun K hK => ?_) AllReadyH.nil)
          have HO := Lib.hid (heap_alloc_new v1 (.cells (pkA 0 zh16) 25))
          have HQ := Lib.hid (below_alloc v1 (.cells (pkA 0 zh16) 25))
          have HN := Lib.hid (alloc_size v1 (.cells (pkA 0 zh16) 25))
          go_simp
          generalize hw : World.alloc v1 _ = v2
          obtain ⟨gz, hgz⟩ : ∃ g, g = v1.heap.size := ⟨_, rfl⟩
          rw [← hgz]
          have HZv2 : Hid (v2.heap[gz]? = some (.cells (pkA 0 zh16) 25 (0, 0))) := by rw [hgz, ← hw]; exact HO.out
          have hzv2 : gz < v2.heap.size := by rw [hgz, ← hw]; exact Nat.lt_of_lt_of_eq (Nat.lt_succ_self _) HN.out.symm
          have HEv2 : Hid (Below wa.heap.size wa v2) := HEv1.out.trans ((show Below v1.heap.size v1 v2 from by rw [← hw]; exact HQ.out).mono HEv1.out.size)
          have hgz0 : wa.heap.size ≤ gz := by have := HEv1.out.size; omega
          clear hw HO HQ HN hgz
          refine hK.out _ _ (range_belowG HSX.out HEv2.out (by omega)) (fun hHeld => ?_)
          clear hK K
          try simp only [Act.put, List.getElem_toArray, List.getElem_cons_succ, List.getElem_cons_zero, List.setIfInBounds_toArray, List.set_cons_zero, List.set_cons_succ]
          refine wpAnyH_ready (rs := [8]) (by kernel_rfl) (by simp) (AllReadyH.cons (o := _) rfl (fun K hK => ?_) AllReadyH.nil)
          rw [if_pos (by rfl)]
          refine wp_store_row 25 _ _ rfl gz (pkA (h : Int) (nodK x h 0)) rfl rfl 25 _ HZv2.out (info_pk HNK.out) (by rw [pkA_size HNK.out, pkA_size zh16_H16]) (one_pk _ _) ?_
          generalize hw : World.setRow v2 _ _ = wy
          have HKy : Hid (wy.heap[gz]? = some (.cells (pkA (h : Int) (nodK x h 0)) 25 (0, 0))) := by rw [← hw]; exact setRow_heap _ _ _ _ _ _ HZv2.out
          have HEy : Hid (Below wa.heap.size wa wy) := by rw [← hw]; exact below_setRow HEv2.out (by omega) _
          have hzy : gz < wy.heap.size := by rw [← hw]; simp [World.setRow]; omega
          clear hw
          skip
          refine hK.out _ _ (range_belowG HSX.out HEy.out (by omega)) (fun hHeld => ?_)
          clear hK K
          try simp only [Act.put, List.getElem_toArray, List.getElem_cons_succ, List.getElem_cons_zero, List.setIfInBounds_toArray, List.set_cons_zero, List.set_cons_succ]
          refine wpAnyH_take (i := 9) (oi := _) (v := ?v9n18) rfl (by kernel_rfl) (by kernel_rfl) (by kernel_rfl) (fun _ _ _ h => h) (Or.inl ⟨by rfl, ?hy9n18⟩) (by assumption) ?rest9n18
          case hy9n18 =>
            intro w' hSw
            go_simp
            try with_reducible rfl
          try simp only [Act.put, List.getElem_toArray, List.getElem_cons_succ, List.getElem_cons_zero, List.setIfInBounds_toArray, List.set_cons_zero, List.set_cons_succ]
          refine wpAnyH_done (by kernel_rfl) ?_ _
          go_wp2_with fail
          go_meet
          exact ⟨gz, rfl, rfl, ⟨(HEy.out.block _ (by have := HA1.out.s; omega)).trans HA1.out.x, (HEy.out.block _ (by have := HA1.out.s; omega)).trans HA1.out.p, HA1.out.b.trans (HEy.out.mono (by have := HA1.out.s; omega)), by have := HA1.out.s; have := HEy.out.size; omega⟩, HKy.out, HEy.out, by omega, by omega⟩
        · have HO := Lib.hid (heap_alloc_new wa (.cells (pkA 0 zh16) 25))
          have HQ := Lib.hid (below_alloc wa (.cells (pkA 0 zh16) 25))
          have HN := Lib.hid (alloc_size wa (.cells (pkA 0 zh16) 25))
          go_simp
          generalize hw : World.drew (World.alloc wa _) = v1
          obtain ⟨gz, hgz⟩ : ∃ g, g = wa.heap.size := ⟨_, rfl⟩
          rw [← hgz]
          have HZv1 : Hid (v1.heap[gz]? = some (.cells (pkA 0 zh16) 25 (0, 0))) := by rw [hgz, ← hw]; exact HO.out
          have hzv1 : gz < v1.heap.size := by rw [hgz, ← hw]; exact Nat.lt_of_lt_of_eq (Nat.lt_succ_self _) HN.out.symm
          have HEv1 : Hid (Below wa.heap.size wa v1) := (by rw [← hw]; exact HQ.out.drew)
          have hgz0 : wa.heap.size ≤ gz := by omega
          clear hw HO HQ HN hgz
          refine hK.out _ _ (range_belowG HSX.out HEv1.out (by omega)) (fun hHeld => ?_)
          clear hK K
          try simp only [Act.put, List.getElem_toArray, List.getElem_cons_succ, List.getElem_cons_zero, List.setIfInBounds_toArray, List.set_cons_zero, List.set_cons_succ]
          refine wpAnyH_ready (rs := [3]) (by kernel_rfl) (by simp) (AllReadyH.cons (o := _) rfl (fun K hK => ?_) AllReadyH.nil)
          go_simp
          with_reducible refine (HCN.out _ HEv1.out).mono ?_
          rintro e v2 ⟨rfl, hb⟩
          have HEv2 : Hid (Below wa.heap.size wa v2) := HEv1.out.trans (hb.mono HEv1.out.size)
          have HZv2 : Hid (v2.heap[gz]? = some (.cells (pkA 0 zh16) 25 (0, 0))) := (hb.block _ (by omega)).trans HZv1.out
          have hzv2 : gz < v2.heap.size := by have := hb.size; omega
          clear hb
          go_wp2_with fail
          refine hK.out _ _ (range_belowG HSX.out HEv2.out (by omega)) (fun hHeld => ?_)
          clear hK K
          try simp only [Act.put, List.getElem_toArray, List.getElem_cons_succ, List.getElem_cons_zero, List.setIfInBounds_toArray, List.set_cons_zero, List.set_cons_succ]
          refine wpAnyH_take (i := 4) (oi := _) (v := ?v4n19) rfl (by kernel_rfl) (by kernel_rfl) (by kernel_rfl) (fun _ _ _ h => h) (Or.inl ⟨by rfl, ?hy4n19⟩) (by assumption) ?rest4n19
          case hy4n19 =>
            intro w' hSw
            go_simp
            try with_reducible rfl
          try simp only [Act.put, List.getElem_toArray, List.getElem_cons_succ, List.getElem_cons_zero, List.setIfInBounds_toArray, List.set_cons_zero, List.set_cons_succ]
          refine wpAnyH_take (i := 5) (oi := _) (v := ?v5n20) rfl (by kernel_rfl) (by kernel_rfl) (by kernel_rfl) (fun _ _ _ h => h) (Or.inl ⟨by rfl, ?hy5n20⟩) (by assumption) ?rest5n20
          case hy5n20 =>
            intro w' hSw
            go_simp
            try with_reducible rfl
          try simp only [Act.put, List.getElem_toArray, List.getElem_cons_succ, List.getElem_cons_zero, List.setIfInBounds_toArray, List.set_cons_zero, List.set_cons_succ]
          refine wpAnyH_take (i := 6) (oi := _) (v := ?v6n21) rfl (by kernel_rfl) (by kernel_rfl) (by kernel_rfl) (fun _ _ _ h => h) (Or.inl ⟨by rfl, ?hy6n21⟩) (by assumption) ?rest6n21
          case hy6n21 =>
            intro w' hSw
            go_simp
            try with_reducible rfl
          try simp only [Act.put, List.getElem_toArray, List.getElem_cons_succ, List.getElem_cons_zero, List.setIfInBounds_toArray, List.set_cons_zero, List.set_cons_succ]
          refine wpAnyH_ready (rs := [8]) (by kernel_rfl) (by simp) (AllReadyH.cons (o := _) rfl (fun K hK => ?_) AllReadyH.nil)
          rw [if_pos (by rfl)]
          refine wp_store_row 25 _ _ rfl gz (pkA (h : Int) (nodK x h 0)) rfl rfl 25 _ HZv2.out (info_pk HNK.out) (by rw [pkA_size HNK.out, pkA_size zh16_H16]) (one_pk _ _) ?_
          generalize hw : World.setRow v2 _ _ = wy
          have HKy : Hid (wy.heap[gz]? = some (.cells (pkA (h : Int) (nodK x h 0)) 25 (0, 0))) := by rw [← hw]; exact setRow_heap _ _ _ _ _ _ HZv2.out
          have HEy : Hid (Below wa.heap.size wa wy) := by rw [← hw]; exact below_setRow HEv2.out (by omega) _
          have hzy : gz < wy.heap.size := by rw [← hw]; simp [World.setRow]; omega
          clear hw
          skip
          refine hK.out _ _ (range_belowG HSX.out HEy.out (by omega)) (fun hHeld => ?_)
          clear hK K
          try simp only [Act.put, List.getElem_toArray, List.getElem_cons_succ, List.getElem_cons_zero, List.setIfInBounds_toArray, List.set_cons_zero, List.set_cons_succ]
          refine wpAnyH_take (i := 9) (oi := _) (v := ?v9n22) rfl (by kernel_rfl) (by kernel_rfl) (by kernel_rfl) (fun _ _ _ h => h) (Or.inl ⟨by rfl, ?hy9n22⟩) (by assumption) ?rest9n22
          case hy9n22 =>
            intro w' hSw
            go_simp
            try with_reducible rfl
          try simp only [Act.put, List.getElem_toArray, List.getElem_cons_succ, List.getElem_cons_zero, List.setIfInBounds_toArray, List.set_cons_zero, List.set_cons_succ]
          refine wpAnyH_done (by kernel_rfl) ?_ _
          go_wp2_with fail
          go_meet
          exact ⟨gz, rfl, rfl, ⟨(HEy.out.block _ (by have := HA1.out.s; omega)).trans HA1.out.x, (HEy.out.block _ (by have := HA1.out.s; omega)).trans HA1.out.p, HA1.out.b.trans (HEy.out.mono (by have := HA1.out.s; omega)), by have := HA1.out.s; have := HEy.out.size; omega⟩, HKy.out, HEy.out, by omega, by omega⟩
      · have HO := Lib.hid (heap_alloc_new wa (.cells (pkA 0 zh16) 25))
        have HQ := Lib.hid (below_alloc wa (.cells (pkA 0 zh16) 25))
        have HN := Lib.hid (alloc_size wa (.cells (pkA 0 zh16) 25))
        go_simp
        generalize hw : World.drew (World.alloc wa _) = v1
        obtain ⟨gz, hgz⟩ : ∃ g, g = wa.heap.size := ⟨_, rfl⟩
        rw [← hgz]
        have HZv1 : Hid (v1.heap[gz]? = some (.cells (pkA 0 zh16) 25 (0, 0))) := by rw [hgz, ← hw]; exact HO.out
        have hzv1 : gz < v1.heap.size := by rw [hgz, ← hw]; exact Nat.lt_of_lt_of_eq (Nat.lt_succ_self _) HN.out.symm
        have HEv1 : Hid (Below wa.heap.size wa v1) := (by rw [← hw]; exact HQ.out.drew)
        have hgz0 : wa.heap.size ≤ gz := by omega
        clear hw HO HQ HN hgz
        refine hK.out _ _ (range_belowG HSX.out HEv1.out (by omega)) (fun hHeld => ?_)
        clear hK K
        try simp only [Act.put, List.getElem_toArray, List.getElem_cons_succ, List.getElem_cons_zero, List.setIfInBounds_toArray, List.set_cons_zero, List.set_cons_succ]
        refine wpAnyH_ready (rs := [2]) (by kernel_rfl) (by simp) (AllReadyH.cons (o := _) rfl (fun K hK => ?_) AllReadyH.nil)
        go_simp
        with_reducible refine (low_any hg _).mono ?_
        rintro e w' ⟨rfl, rfl⟩
        rw [HHG.out]
        go_wp2_with fail
        refine hK.out _ _ (range_belowG HSX.out HEv1.out (by omega)) (fun hHeld => ?_)
        clear hK K
        try simp only [Act.put, List.getElem_toArray, List.getElem_cons_succ, List.getElem_cons_zero, List.setIfInBounds_toArray, List.set_cons_zero, List.set_cons_succ]
        refine wpAnyH_ready (rs := [3]) (by kernel_rfl) (by simp) (AllReadyH.cons (o := _) rfl (fun K hK => ?_) AllReadyH.nil)
        go_simp
        with_reducible refine (HCN.out _ HEv1.out).mono ?_
        rintro e v2 ⟨rfl, hb⟩
        have HEv2 : Hid (Below wa.heap.size wa v2) := HEv1.out.trans (hb.mono HEv1.out.size)
        have HZv2 : Hid (v2.heap[gz]? = some (.cells (pkA 0 zh16) 25 (0, 0))) := (hb.block _ (by omega)).trans HZv1.out
        have hzv2 : gz < v2.heap.size := by have := hb.size; omega
        clear hb
        go_wp2_with fail
        refine hK.out _ _ (range_belowG HSX.out HEv2.out (by omega)) (fun hHeld => ?_)
        clear hK K
        try simp only [Act.put, List.getElem_toArray, List.getElem_cons_succ, List.getElem_cons_zero, List.setIfInBounds_toArray, List.set_cons_zero, List.set_cons_succ]
        refine wpAnyH_take (i := 4) (oi := _) (v := ?v4n23) rfl (by kernel_rfl) (by kernel_rfl) (by kernel_rfl) (fun _ _ _ h => h) (Or.inl ⟨by rfl, ?hy4n23⟩) (by assumption) ?rest4n23
        case hy4n23 =>
          intro w' hSw
          go_simp
          try with_reducible rfl
        try simp only [Act.put, List.getElem_toArray, List.getElem_cons_succ, List.getElem_cons_zero, List.setIfInBounds_toArray, List.set_cons_zero, List.set_cons_succ]
        refine wpAnyH_take (i := 5) (oi := _) (v := ?v5n24) rfl (by kernel_rfl) (by kernel_rfl) (by kernel_rfl) (fun _ _ _ h => h) (Or.inl ⟨by rfl, ?hy5n24⟩) (by assumption) ?rest5n24
        case hy5n24 =>
          intro w' hSw
          go_simp
          try with_reducible rfl
        try simp only [Act.put, List.getElem_toArray, List.getElem_cons_succ, List.getElem_cons_zero, List.setIfInBounds_toArray, List.set_cons_zero, List.set_cons_succ]
        refine wpAnyH_take (i := 6) (oi := _) (v := ?v6n25) rfl (by kernel_rfl) (by kernel_rfl) (by kernel_rfl) (fun _ _ _ h => h) (Or.inl ⟨by rfl, ?hy6n25⟩) (by assumption) ?rest6n25
        case hy6n25 =>
          intro w' hSw
          go_simp
          try with_reducible rfl
        try simp only [Act.put, List.getElem_toArray, List.getElem_cons_succ, List.getElem_cons_zero, List.setIfInBounds_toArray, List.set_cons_zero, List.set_cons_succ]
        refine wpAnyH_ready (rs := [8]) (by kernel_rfl) (by simp) (AllReadyH.cons (o := _) rfl (fun K hK => ?_) AllReadyH.nil)
        rw [if_pos (by rfl)]
        refine wp_store_row 25 _ _ rfl gz (pkA (h : Int) (nodK x h 0)) rfl rfl 25 _ HZv2.out (info_pk HNK.out) (by rw [pkA_size HNK.out, pkA_size zh16_H16]) (one_pk _ _) ?_
        generalize hw : World.setRow v2 _ _ = wy
        have HKy : Hid (wy.heap[gz]? = some (.cells (pkA (h : Int) (nodK x h 0)) 25 (0, 0))) := by rw [← hw]; exact setRow_heap _ _ _ _ _ _ HZv2.out
        have HEy : Hid (Below wa.heap.size wa wy) := by rw [← hw]; exact below_setRow HEv2.out (by omega) _
        have hzy : gz < wy.heap.size := by rw [← hw]; simp [World.setRow]; omega
        clear hw
        skip
        refine hK.out _ _ (range_belowG HSX.out HEy.out (by omega)) (fun hHeld => ?_)
        clear hK K
        try simp only [Act.put, List.getElem_toArray, List.getElem_cons_succ, List.getElem_cons_zero, List.setIfInBounds_toArray, List.set_cons_zero, List.set_cons_succ]
        refine wpAnyH_take (i := 9) (oi := _) (v := ?v9n26) rfl (by kernel_rfl) (by kernel_rfl) (by kernel_rfl) (fun _ _ _ h => h) (Or.inl ⟨by rfl, ?hy9n26⟩) (by assumption) ?rest9n26
        case hy9n26 =>
          intro w' hSw
          go_simp
          try with_reducible rfl
        try simp only [Act.put, List.getElem_toArray, List.getElem_cons_succ, List.getElem_cons_zero, List.setIfInBounds_toArray, List.set_cons_zero, List.set_cons_succ]
        refine wpAnyH_done (by kernel_rfl) ?_ _
        go_wp2_with fail
        go_meet
        exact ⟨gz, rfl, rfl, ⟨(HEy.out.block _ (by have := HA1.out.s; omega)).trans HA1.out.x, (HEy.out.block _ (by have := HA1.out.s; omega)).trans HA1.out.p, HA1.out.b.trans (HEy.out.mono (by have := HA1.out.s; omega)), by have := HA1.out.s; have := HEy.out.size; omega⟩, HKy.out, HEy.out, by omega, by omega⟩
  case rest =>
  obtain ⟨g9, rfl, rfl, HB2⟩ := hcut
  have hi1 := HB1.out.i
  have hi2 := HB2.out.i
  have hsa := HA1.out.s
  clear HSX HCN hswa
  have H7 : Hid (wc.heap[g7]? = some (.cells (pkA (h : Int) (nodK x h 0)) 25 (0, 0))) := (HB2.out.e.block _ (by omega)).trans HB1.out.k
  have H9 : Hid (wc.heap[g9]? = some (.cells (pkA (h : Int) (nodK x h 0)) 25 (0, 0))) := HB2.out.k
  have HA2 : Hid (KkA w x ph pr wc) := HB2.out.a
  clear HB1 HB2 HA1
  have HZP := Lib.hid (PkRow.new wc 0 zh16)
  go_upto_region 5 with (refine wpList_store_row rfl 25 _ _ rfl wc.heap.size (pkA 0 zh16) rfl rfl 25 _ HZP.out.k (info_pk zh16_H16) rfl (one_pk _ _) ?_; rw [setRow_new]; generalize hw2 : World.alloc wc _ = wd; have HZd : Hid (PkRow wc 0 zh16 wd) := (by rw [← hw2]; exact HZP.out); clear hw2 HZP)
  obtain ⟨g11, hg11⟩ : ∃ g, g = wc.heap.size := ⟨_, rfl⟩
  rw [← hg11]
  have HZ3 : Hid (wd.heap[g11]? = some (.cells (pkA 0 zh16) 25 (0, 0))) := by rw [hg11]; exact HZd.out.k
  have hsc := HA2.out.s
  have hsd : wc.heap.size < wd.heap.size := by have := HZd.out.s; omega
  have H7d : Hid (wd.heap[g7]? = some (.cells (pkA (h : Int) (nodK x h 0)) 25 (0, 0))) := (HZd.out.b.block _ (by omega)).trans H7.out
  have H9d : Hid (wd.heap[g9]? = some (.cells (pkA (h : Int) (nodK x h 0)) 25 (0, 0))) := (HZd.out.b.block _ (by omega)).trans H9.out
  have HAd : Hid (KkA w x ph pr wd) := ⟨(HZd.out.b.block _ (by omega)).trans HA2.out.x, (HZd.out.b.block _ (by omega)).trans HA2.out.p, HA2.out.b.trans (HZd.out.b.mono (by omega)), by omega⟩
  have hi3 : g7 < g11 ∧ g9 < g11 ∧ g11 < wd.heap.size ∧ w.heap.size + 2 ≤ g7 ∧ w.heap.size + 2 ≤ g9 := by omega
  clear H7 H9 HA2 HZd hi1 hi2 hsa hsc hsd hg11
  have HID := Lib.hid (fun w' (hb : Below w.heap.size w w') (hz : 0 < w'.heap.size) => (show Calls Tryd.prog 13 #[.agg (pkL ph pr).toArray] w' fun e w'' => e = .returned (.agg (dg (idB ph pr))) ∧ Below w'.heap.size w' w'' from id_any ph pr w' HP.out (HK.out.below hb hk0) hz))
  have HRID := Lib.hid (fun w' => (show Calls Tryd.prog 14 #[.agg (pkL ph pr).toArray] w' fun e w'' => e = .returned (.agg (dg (idB ph pr))) ∧ Below w'.heap.size w' w'' from rid_any ph pr w' HP.out))
  have HVA := Lib.hid (fun w' => (show Calls Tryd.prog 15 #[.agg (pkL ph pr).toArray] w' fun e w'' => e = .returned (.bool (hgtB ph)) ∧ Below w'.heap.size w' w'' from valid_any ph pr w'))
  have HRVA := Lib.hid (fun w' => (show Calls Tryd.prog 16 #[.agg (pkL ph pr).toArray] w' fun e w'' => e = .returned (.bool (hgtB ph)) ∧ Below w'.heap.size w' w'' from rvalid_any ph pr w'))
  have HJ := Lib.hid (fun w' (hb : Below w.heap.size w w') (hz : 0 < w'.heap.size) => (show Calls Tryd.prog 17 #[.int .i64 hg, .int .i64 ph, .agg (pr.map (Value.int .u8)).toArray, .agg (x.map (Value.int .u8)).toArray] w' fun e w'' => e = .returned (.agg (hvA (joinB hg ph pr x))) ∧ Below w'.heap.size w' w'' from join_any hg ph pr x w' HP.out HX.out (HK.out.below hb hk0) hz))
  have HRJ := Lib.hid (fun w' => (show Calls Tryd.prog 18 #[.int .i64 hg, .int .i64 ph, .agg (pr.map (Value.int .u8)).toArray, .agg (x.map (Value.int .u8)).toArray] w' fun e w'' => e = .returned (.agg (hvA (joinB hg ph pr x))) ∧ Below w'.heap.size w' w'' from rjoin_any hg ph pr x w' HP.out HX.out))
  generalize hgtB ph = qv at *
  by_cases h0 : hg < 0
  · have HVN : Hid (hgtB hg = false) := by show _ = _; unfold hgtB; simp; omega
    have q1 : decide (hg < 0) = true := by simp; omega
    clear h0
    have HKd : Hid (KayIn wd) := HK.out.below HAd.out.b hk0
    go_wp2_with (refine wpList_load_row rfl 23 _ rfl w.heap.size rfl 23 _ (0, 0) _ HAd.out.x Tryd.underlying23 rfl (info_h HX.out) ?_)
    refine (new_no x hg wd HVN.out).mono ?_
    rintro e wf ⟨rfl, hbf⟩
    have HZf : Hid (wf.heap[g11]? = some (.cells (pkA 0 zh16) 25 (0, 0))) := (hbf.block _ (by omega)).trans HZ3.out
    have HBf := Lib.hid hbf
    have hsf := hbf.size
    clear hbf
    go_wp2_with (refine wpList_store_row rfl 25 _ _ rfl g11 (pkA 0 zh16) rfl rfl 25 _ HZf.out (info_pk zh16_H16) rfl (one_pk _ _) ?_; generalize hwe : World.setRow wf _ _ = we; have HA11we : Hid (we.heap[g11]? = some (.cells (pkA 0 zh16) 25 (0, 0))) := (by rw [← hwe]; exact setRow_heap _ _ _ _ _ _ HZf.out); have HA7we : Hid (we.heap[g7]? = some (.cells (pkA (h : Int) (nodK x h 0)) 25 (0, 0))) := (by rw [← hwe]; exact (setRow_other _ _ _ _ (by omega)).trans ((HBf.out.block _ (by omega)).trans H7d.out)); have HA9we : Hid (we.heap[g9]? = some (.cells (pkA (h : Int) (nodK x h 0)) 25 (0, 0))) := (by rw [← hwe]; exact (setRow_other _ _ _ _ (by omega)).trans ((HBf.out.block _ (by omega)).trans H9d.out)); have HAe : Hid (KkA w x ph pr we) := (by rw [← hwe]; exact ⟨(setRow_other _ _ _ _ (by omega)).trans ((HBf.out.block _ (by omega)).trans HAd.out.x), (setRow_other _ _ _ _ (by omega)).trans ((HBf.out.block _ (by omega)).trans HAd.out.p), below_setRow (HAd.out.b.trans (HBf.out.mono (by omega))) (by omega) _, by simp [World.setRow]; omega⟩); have hge : g11 < we.heap.size := (by rw [← hwe]; simp [World.setRow]; omega); clear hwe)
    have HXwe : Hid (we.heap[w.heap.size]? = some (.cells (hvA x) 23 (0, 0))) := HAe.out.x
    have HPwe : Hid (we.heap[w.heap.size + 1]? = some (.cells (pkA ph pr) 25 (0, 0))) := HAe.out.p
    have HBwe : Hid (Below w.heap.size w we) := HAe.out.b
    have hswe : g11 < we.heap.size ∧ g7 < we.heap.size ∧ g9 < we.heap.size ∧ w.heap.size + 2 ≤ we.heap.size := by have := HAe.out.s; omega
    have HAW := Lib.hid (awake_any we.drew (HK.out.below HBwe.out.drew hk0) (by have := HBwe.out.drew.size; omega))
    refine wp_region_held_drew (S := fun w' => w'.heap[w.heap.size]? = some (.cells (hvA x) 23 (0, 0)) ∧ w'.heap[w.heap.size + 1]? = some (.cells (pkA ph pr) 25 (0, 0)) ∧ w'.heap[g7]? = some (.cells (pkA (h : Int) (nodK x h 0)) 25 (0, 0)) ∧ w'.heap[g9]? = some (.cells (pkA (h : Int) (nodK x h 0)) 25 (0, 0)) ∧ w'.heap[g11]? = some (.cells (pkA 0 zh16) 25 (0, 0))) (by kernel_rfl) ⟨HXwe.out, HPwe.out, HA7we.out, HA9we.out, HA11we.out⟩ (fun hHeld => ?_)
    refine wpAnyH_ready (rs := [0]) (by kernel_rfl) (by simp) (AllReadyH.cons (o := _) rfl (fun K hK => ?_) AllReadyH.nil)
    go_simp
    with_reducible refine (HAW.out).mono ?_
    rintro e u1 ⟨rfl, hb⟩
    have HEu1 : Hid (Below we.heap.size we u1) := (Below.refl _ _).drew.trans hb
    clear hb
    have HXu1 : Hid (u1.heap[w.heap.size]? = some (.cells (hvA x) 23 (0, 0))) := (HEu1.out.block _ (by omega)).trans HXwe.out
    have HPu1 : Hid (u1.heap[w.heap.size + 1]? = some (.cells (pkA ph pr) 25 (0, 0))) := (HEu1.out.block _ (by omega)).trans HPwe.out
    have HA7u1 : Hid (u1.heap[g7]? = some (.cells (pkA (h : Int) (nodK x h 0)) 25 (0, 0))) := (HEu1.out.block _ (by omega)).trans HA7we.out
    have HA9u1 : Hid (u1.heap[g9]? = some (.cells (pkA (h : Int) (nodK x h 0)) 25 (0, 0))) := (HEu1.out.block _ (by omega)).trans HA9we.out
    have HA11u1 : Hid (u1.heap[g11]? = some (.cells (pkA 0 zh16) 25 (0, 0))) := (HEu1.out.block _ (by omega)).trans HA11we.out
    have HBu1 : Hid (Below w.heap.size w u1) := HBwe.out.trans (HEu1.out.mono (by omega))
    have hsu1 : g11 < u1.heap.size ∧ g7 < u1.heap.size ∧ g9 < u1.heap.size ∧ w.heap.size + 2 ≤ u1.heap.size := by have := HEu1.out.size; omega
    go_wp2_with fail
    refine hK.out _ _ ⟨HXu1.out, HPu1.out, HA7u1.out, HA9u1.out, HA11u1.out⟩ (fun hHeld => ?_)
    clear hK K
    try simp only [Act.put, List.getElem_toArray, List.getElem_cons_succ, List.getElem_cons_zero, List.setIfInBounds_toArray, List.set_cons_zero, List.set_cons_succ]
    refine wpAnyH_take (i := 1) (oi := _) (v := ?v1n29) rfl (by kernel_rfl) (by kernel_rfl) (by kernel_rfl) (fun _ _ _ h => h) (Or.inl ⟨by rfl, ?hy1n29⟩) (by assumption) ?rest1n29
    case hy1n29 =>
      intro w' hSw
      go_simp
      try with_reducible rfl
    try simp only [Act.put, List.getElem_toArray, List.getElem_cons_succ, List.getElem_cons_zero, List.setIfInBounds_toArray, List.set_cons_zero, List.set_cons_succ]
    refine wpAnyH_take (i := 2) (oi := _) (v := ?v2n30) rfl (by kernel_rfl) (by kernel_rfl) (by kernel_rfl) (fun _ _ _ h => h) (Or.inl ⟨by rfl, ?hy2n30⟩) (by assumption) ?rest2n30
    case hy2n30 =>
      intro w' hSw
      go_simp
      try with_reducible rfl
    try simp only [Act.put, List.getElem_toArray, List.getElem_cons_succ, List.getElem_cons_zero, List.setIfInBounds_toArray, List.set_cons_zero, List.set_cons_succ]
    refine wpAnyH_take (i := 3) (oi := _) (v := ?v3n31) rfl (by kernel_rfl) (by kernel_rfl) (by kernel_rfl) (fun _ _ _ h => h) (Or.inl ⟨by rfl, ?hy3n31⟩) (by assumption) ?rest3n31
    case hy3n31 =>
      intro w' hSw
      go_simp
      try with_reducible rfl
    try simp only [Act.put, List.getElem_toArray, List.getElem_cons_succ, List.getElem_cons_zero, List.setIfInBounds_toArray, List.set_cons_zero, List.set_cons_succ]
    refine wpAnyH_take (i := 4) (oi := _) (v := ?v4n32) rfl (by kernel_rfl) (by kernel_rfl) (by kernel_rfl) (fun _ _ _ h => h) (Or.inl ⟨by rfl, ?hy4n32⟩) (by assumption) ?rest4n32
    case hy4n32 =>
      intro w' hSw
      go_simp
      try with_reducible rfl
    try simp only [Act.put, List.getElem_toArray, List.getElem_cons_succ, List.getElem_cons_zero, List.setIfInBounds_toArray, List.set_cons_zero, List.set_cons_succ]
    refine wpAnyH_take (i := 5) (oi := _) (v := ?v5n33) rfl (by kernel_rfl) (by kernel_rfl) (by kernel_rfl) (fun _ _ _ h => h) (Or.inl ⟨by rfl, ?hy5n33⟩) (by assumption) ?rest5n33
    case hy5n33 =>
      intro w' hSw
      go_simp
      try with_reducible rfl
    try simp only [Act.put, List.getElem_toArray, List.getElem_cons_succ, List.getElem_cons_zero, List.setIfInBounds_toArray, List.set_cons_zero, List.set_cons_succ]
    refine wpAnyH_take (i := 6) (oi := _) (v := ?v6n34) rfl (by kernel_rfl) (by kernel_rfl) (by kernel_rfl) (fun _ _ _ h => h) (Or.inl ⟨by rfl, ?hy6n34⟩) (by assumption) ?rest6n34
    case hy6n34 =>
      intro w' hSw
      go_simp
      try with_reducible rfl
    try simp only [Act.put, List.getElem_toArray, List.getElem_cons_succ, List.getElem_cons_zero, List.setIfInBounds_toArray, List.set_cons_zero, List.set_cons_succ]
    refine' wpAnyH_take (i := 7) (oi := _) (v := _) rfl (by kernel_rfl) (by kernel_rfl) (by kernel_rfl) (fun _ _ _ h => h) (yieldsIf_load_mid (by rfl) _ _ rfl _ _ rfl _ _ ?hS7n35 Tryd.underlying25 rfl (info_pkL HNK.out)) (by assumption) ?rest7n35
    case hS7n35 =>
      intro w' hSw
      exact row_rngK hSw.2.2.1
    try simp only [Act.put, List.getElem_toArray, List.getElem_cons_succ, List.getElem_cons_zero, List.setIfInBounds_toArray, List.set_cons_zero, List.set_cons_succ]
    refine' wpAnyH_take (i := 8) (oi := _) (v := _) rfl (by kernel_rfl) (by kernel_rfl) (by kernel_rfl) (fun _ _ _ h => h) (yieldsIf_load_mid (by rfl) _ _ rfl _ _ rfl _ _ ?hS8n36 Tryd.underlying25 rfl (info_pkL HNK.out)) (by assumption) ?rest8n36
    case hS8n36 =>
      intro w' hSw
      exact row_rngK hSw.2.2.2.1
    try simp only [Act.put, List.getElem_toArray, List.getElem_cons_succ, List.getElem_cons_zero, List.setIfInBounds_toArray, List.set_cons_zero, List.set_cons_succ]
    refine wpAnyH_take (i := 9) (oi := _) (v := ?v9n37) rfl (by kernel_rfl) (by kernel_rfl) (by kernel_rfl) (fun _ _ _ h => h) (Or.inl ⟨by rfl, ?hy9n37⟩) (by assumption) ?rest9n37
    case hy9n37 =>
      intro w' hSw
      refine exec_eqK (x := .tmp 47) (y := .tmp 48) (by kernel_rfl) (eqPk h (nodK x h 0) HNK.out w') ?_ ?_ ?_ <;> rfl
    try simp only [Act.put, List.getElem_toArray, List.getElem_cons_succ, List.getElem_cons_zero, List.setIfInBounds_toArray, List.set_cons_zero, List.set_cons_succ]
    refine wpAnyH_take (i := 10) (oi := _) (v := ?v10n38) rfl (by kernel_rfl) (by kernel_rfl) (by kernel_rfl) (fun _ _ _ h => h) (Or.inl ⟨by rfl, ?hy10n38⟩) (by assumption) ?rest10n38
    case hy10n38 =>
      intro w' hSw
      go_simp
      try with_reducible rfl
    try simp only [Act.put, List.getElem_toArray, List.getElem_cons_succ, List.getElem_cons_zero, List.setIfInBounds_toArray, List.set_cons_zero, List.set_cons_succ]
    refine wpAnyH_take (i := 11) (oi := _) (v := ?v11n39) rfl (by kernel_rfl) (by kernel_rfl) (by kernel_rfl) (fun _ _ _ h => h) (Or.inl ⟨by rfl, ?hy11n39⟩) (by assumption) ?rest11n39
    case hy11n39 =>
      intro w' hSw
      go_simp
      try with_reducible rfl
    try simp only [Act.put, List.getElem_toArray, List.getElem_cons_succ, List.getElem_cons_zero, List.setIfInBounds_toArray, List.set_cons_zero, List.set_cons_succ]
    refine wpAnyH_take (i := 12) (oi := _) (v := ?v12n40) rfl (by kernel_rfl) (by kernel_rfl) (by kernel_rfl) (fun _ _ _ h => h) (Or.inl ⟨by rfl, ?hy12n40⟩) (by assumption) ?rest12n40
    case hy12n40 =>
      intro w' hSw
      go_simp
      try with_reducible rfl
    try simp only [Act.put, List.getElem_toArray, List.getElem_cons_succ, List.getElem_cons_zero, List.setIfInBounds_toArray, List.set_cons_zero, List.set_cons_succ]
    refine wpAnyH_take (i := 13) (oi := _) (v := ?v13n41) rfl (by kernel_rfl) (by kernel_rfl) (by kernel_rfl) (fun _ _ _ h => h) (Or.inl ⟨by rfl, ?hy13n41⟩) (by assumption) ?rest13n41
    case hy13n41 =>
      intro w' hSw
      go_simp
      try with_reducible rfl
    try simp only [Act.put, List.getElem_toArray, List.getElem_cons_succ, List.getElem_cons_zero, List.setIfInBounds_toArray, List.set_cons_zero, List.set_cons_succ]
    refine wpAnyH_take (i := 14) (oi := _) (v := ?v14n42) rfl (by kernel_rfl) (by kernel_rfl) (by kernel_rfl) (fun _ _ _ h => h) (Or.inl ⟨by rfl, ?hy14n42⟩) (by assumption) ?rest14n42
    case hy14n42 =>
      intro w' hSw
      go_simp
      try with_reducible rfl
    try simp only [Act.put, List.getElem_toArray, List.getElem_cons_succ, List.getElem_cons_zero, List.setIfInBounds_toArray, List.set_cons_zero, List.set_cons_succ]
    refine wpAnyH_take (i := 15) (oi := _) (v := ?v15n43) rfl (by kernel_rfl) (by kernel_rfl) (by kernel_rfl) (fun _ _ _ h => h) (Or.inl ⟨by rfl, ?hy15n43⟩) (by assumption) ?rest15n43
    case hy15n43 =>
      intro w' hSw
      go_simp
      try with_reducible rfl
    try simp only [Act.put, List.getElem_toArray, List.getElem_cons_succ, List.getElem_cons_zero, List.setIfInBounds_toArray, List.set_cons_zero, List.set_cons_succ]
    refine' wpAnyH_take (i := 16) (oi := _) (v := _) rfl (by kernel_rfl) (by kernel_rfl) (by kernel_rfl) (fun _ _ _ h => h) (yieldsIf_load_mid (by rfl) _ _ rfl _ _ rfl _ _ ?hS16n44 Tryd.underlying25 rfl (info_pkL zh16_H16)) (by assumption) ?rest16n44
    case hS16n44 =>
      intro w' hSw
      exact row_rngK hSw.2.2.2.2
    try simp only [Act.put, List.getElem_toArray, List.getElem_cons_succ, List.getElem_cons_zero, List.setIfInBounds_toArray, List.set_cons_zero, List.set_cons_succ]
    refine wpAnyH_take (i := 17) (oi := _) (v := ?v17n45) rfl (by kernel_rfl) (by kernel_rfl) (by kernel_rfl) (fun _ _ _ h => h) (Or.inl ⟨by rfl, ?hy17n45⟩) (by assumption) ?rest17n45
    case hy17n45 =>
      intro w' hSw
      go_simp
      try with_reducible rfl
    try simp only [Act.put, List.getElem_toArray, List.getElem_cons_succ, List.getElem_cons_zero, List.setIfInBounds_toArray, List.set_cons_zero, List.set_cons_succ]
    refine wpAnyH_take (i := 18) (oi := _) (v := ?v18n46) rfl (by kernel_rfl) (by kernel_rfl) (by kernel_rfl) (fun _ _ _ h => h) (Or.inl ⟨by rfl, ?hy18n46⟩) (by assumption) ?rest18n46
    case hy18n46 =>
      intro w' hSw
      refine exec_eqK (x := .tmp 56) (y := .tmp 57) (by kernel_rfl) (eqPk 0 zh16 zh16_H16 w') ?_ ?_ ?_ <;> rfl
    try simp only [Act.put, List.getElem_toArray, List.getElem_cons_succ, List.getElem_cons_zero, List.setIfInBounds_toArray, List.set_cons_zero, List.set_cons_succ]
    refine wpAnyH_take (i := 19) (oi := _) (v := ?v19n47) rfl (by kernel_rfl) (by kernel_rfl) (by kernel_rfl) (fun _ _ _ h => h) (Or.inl ⟨by rfl, ?hy19n47⟩) (by assumption) ?rest19n47
    case hy19n47 =>
      intro w' hSw
      go_simp
      try with_reducible rfl
    try simp only [Act.put, List.getElem_toArray, List.getElem_cons_succ, List.getElem_cons_zero, List.setIfInBounds_toArray, List.set_cons_zero, List.set_cons_succ]
    refine wpAnyH_take (i := 20) (oi := _) (v := ?v20n48) rfl (by kernel_rfl) (by kernel_rfl) (by kernel_rfl) (fun _ _ _ h => h) (Or.inl ⟨by rfl, ?hy20n48⟩) (by assumption) ?rest20n48
    case hy20n48 =>
      intro w' hSw
      go_simp
      try with_reducible rfl
    try simp only [Act.put, List.getElem_toArray, List.getElem_cons_succ, List.getElem_cons_zero, List.setIfInBounds_toArray, List.set_cons_zero, List.set_cons_succ]
    refine' wpAnyH_take (i := 21) (oi := _) (v := _) rfl (by kernel_rfl) (by kernel_rfl) (by kernel_rfl) (fun _ _ _ h => h) (yieldsIf_load_mid (by rfl) _ _ rfl _ _ rfl _ _ ?hS21n49 Tryd.underlying25 rfl (info_pkL HP.out)) (by assumption) ?rest21n49
    case hS21n49 =>
      intro w' hSw
      exact row_rngK hSw.2.1
    try simp only [Act.put, List.getElem_toArray, List.getElem_cons_succ, List.getElem_cons_zero, List.setIfInBounds_toArray, List.set_cons_zero, List.set_cons_succ]
    refine' wpAnyH_take (i := 23) (oi := _) (v := _) rfl (by kernel_rfl) (by kernel_rfl) (by kernel_rfl) (fun _ _ _ h => h) (yieldsIf_load_mid (by rfl) _ _ rfl _ _ rfl _ _ ?hS23n50 Tryd.underlying25 rfl (info_pkL HP.out)) (by assumption) ?rest23n50
    case hS23n50 =>
      intro w' hSw
      exact row_rngK hSw.2.1
    try simp only [Act.put, List.getElem_toArray, List.getElem_cons_succ, List.getElem_cons_zero, List.setIfInBounds_toArray, List.set_cons_zero, List.set_cons_succ]
    refine wpAnyH_ready (rs := [22]) (by kernel_rfl) (by simp) (AllReadyH.cons (o := _) rfl (fun K hK => ?_) AllReadyH.nil)
    go_simp
    with_reducible refine ((HID.out u1 HBu1.out (by omega))).mono ?_
    rintro e u2 ⟨rfl, hb⟩
    have HEu2 : Hid (Below u1.heap.size u1 u2) := hb
    clear hb
    have HXu2 : Hid (u2.heap[w.heap.size]? = some (.cells (hvA x) 23 (0, 0))) := (HEu2.out.block _ (by omega)).trans HXu1.out
    have HPu2 : Hid (u2.heap[w.heap.size + 1]? = some (.cells (pkA ph pr) 25 (0, 0))) := (HEu2.out.block _ (by omega)).trans HPu1.out
    have HA7u2 : Hid (u2.heap[g7]? = some (.cells (pkA (h : Int) (nodK x h 0)) 25 (0, 0))) := (HEu2.out.block _ (by omega)).trans HA7u1.out
    have HA9u2 : Hid (u2.heap[g9]? = some (.cells (pkA (h : Int) (nodK x h 0)) 25 (0, 0))) := (HEu2.out.block _ (by omega)).trans HA9u1.out
    have HA11u2 : Hid (u2.heap[g11]? = some (.cells (pkA 0 zh16) 25 (0, 0))) := (HEu2.out.block _ (by omega)).trans HA11u1.out
    have HBu2 : Hid (Below w.heap.size w u2) := HBu1.out.trans (HEu2.out.mono (by omega))
    have hsu2 : g11 < u2.heap.size ∧ g7 < u2.heap.size ∧ g9 < u2.heap.size ∧ w.heap.size + 2 ≤ u2.heap.size := by have := HEu2.out.size; omega
    go_wp2_with fail
    refine hK.out _ _ ⟨HXu2.out, HPu2.out, HA7u2.out, HA9u2.out, HA11u2.out⟩ (fun hHeld => ?_)
    clear hK K
    try simp only [Act.put, List.getElem_toArray, List.getElem_cons_succ, List.getElem_cons_zero, List.setIfInBounds_toArray, List.set_cons_zero, List.set_cons_succ]
    refine wpAnyH_ready (rs := [24]) (by kernel_rfl) (by simp) (AllReadyH.cons (o := _) rfl (fun K hK => ?_) AllReadyH.nil)
    go_simp
    with_reducible refine ((HRID.out u2)).mono ?_
    rintro e u3 ⟨rfl, hb⟩
    have HEu3 : Hid (Below u2.heap.size u2 u3) := hb
    clear hb
    have HXu3 : Hid (u3.heap[w.heap.size]? = some (.cells (hvA x) 23 (0, 0))) := (HEu3.out.block _ (by omega)).trans HXu2.out
    have HPu3 : Hid (u3.heap[w.heap.size + 1]? = some (.cells (pkA ph pr) 25 (0, 0))) := (HEu3.out.block _ (by omega)).trans HPu2.out
    have HA7u3 : Hid (u3.heap[g7]? = some (.cells (pkA (h : Int) (nodK x h 0)) 25 (0, 0))) := (HEu3.out.block _ (by omega)).trans HA7u2.out
    have HA9u3 : Hid (u3.heap[g9]? = some (.cells (pkA (h : Int) (nodK x h 0)) 25 (0, 0))) := (HEu3.out.block _ (by omega)).trans HA9u2.out
    have HA11u3 : Hid (u3.heap[g11]? = some (.cells (pkA 0 zh16) 25 (0, 0))) := (HEu3.out.block _ (by omega)).trans HA11u2.out
    have HBu3 : Hid (Below w.heap.size w u3) := HBu2.out.trans (HEu3.out.mono (by omega))
    have hsu3 : g11 < u3.heap.size ∧ g7 < u3.heap.size ∧ g9 < u3.heap.size ∧ w.heap.size + 2 ≤ u3.heap.size := by have := HEu3.out.size; omega
    go_wp2_with fail
    refine hK.out _ _ ⟨HXu3.out, HPu3.out, HA7u3.out, HA9u3.out, HA11u3.out⟩ (fun hHeld => ?_)
    clear hK K
    try simp only [Act.put, List.getElem_toArray, List.getElem_cons_succ, List.getElem_cons_zero, List.setIfInBounds_toArray, List.set_cons_zero, List.set_cons_succ]
    refine wpAnyH_take (i := 25) (oi := _) (v := ?v25n51) rfl (by kernel_rfl) (by kernel_rfl) (by kernel_rfl) (fun _ _ _ h => h) (Or.inl ⟨by rfl, ?hy25n51⟩) (by assumption) ?rest25n51
    case hy25n51 =>
      intro w' hSw
      refine exec_eqK (x := .tmp 62) (y := .tmp 64) (by kernel_rfl) (eqDgK (idB ph pr) w') ?_ ?_ ?_ <;> rfl
    try simp only [Act.put, List.getElem_toArray, List.getElem_cons_succ, List.getElem_cons_zero, List.setIfInBounds_toArray, List.set_cons_zero, List.set_cons_succ]
    refine wpAnyH_take (i := 26) (oi := _) (v := ?v26n52) rfl (by kernel_rfl) (by kernel_rfl) (by kernel_rfl) (fun _ _ _ h => h) (Or.inl ⟨by rfl, ?hy26n52⟩) (by assumption) ?rest26n52
    case hy26n52 =>
      intro w' hSw
      go_simp
      try with_reducible rfl
    try simp only [Act.put, List.getElem_toArray, List.getElem_cons_succ, List.getElem_cons_zero, List.setIfInBounds_toArray, List.set_cons_zero, List.set_cons_succ]
    refine wpAnyH_take (i := 27) (oi := _) (v := ?v27n53) rfl (by kernel_rfl) (by kernel_rfl) (by kernel_rfl) (fun _ _ _ h => h) (Or.inl ⟨by rfl, ?hy27n53⟩) (by assumption) ?rest27n53
    case hy27n53 =>
      intro w' hSw
      go_simp
      try with_reducible rfl
    try simp only [Act.put, List.getElem_toArray, List.getElem_cons_succ, List.getElem_cons_zero, List.setIfInBounds_toArray, List.set_cons_zero, List.set_cons_succ]
    refine' wpAnyH_take (i := 28) (oi := _) (v := _) rfl (by kernel_rfl) (by kernel_rfl) (by kernel_rfl) (fun _ _ _ h => h) (yieldsIf_load_mid (by rfl) _ _ rfl _ _ rfl _ _ ?hS28n54 Tryd.underlying25 rfl (info_pkL HP.out)) (by assumption) ?rest28n54
    case hS28n54 =>
      intro w' hSw
      exact row_rngK hSw.2.1
    try simp only [Act.put, List.getElem_toArray, List.getElem_cons_succ, List.getElem_cons_zero, List.setIfInBounds_toArray, List.set_cons_zero, List.set_cons_succ]
    refine' wpAnyH_take (i := 30) (oi := _) (v := _) rfl (by kernel_rfl) (by kernel_rfl) (by kernel_rfl) (fun _ _ _ h => h) (yieldsIf_load_mid (by rfl) _ _ rfl _ _ rfl _ _ ?hS30n55 Tryd.underlying25 rfl (info_pkL HP.out)) (by assumption) ?rest30n55
    case hS30n55 =>
      intro w' hSw
      exact row_rngK hSw.2.1
    try simp only [Act.put, List.getElem_toArray, List.getElem_cons_succ, List.getElem_cons_zero, List.setIfInBounds_toArray, List.set_cons_zero, List.set_cons_succ]
    refine wpAnyH_ready (rs := [29]) (by kernel_rfl) (by simp) (AllReadyH.cons (o := _) rfl (fun K hK => ?_) AllReadyH.nil)
    go_simp
    with_reducible refine ((HVA.out u3)).mono ?_
    rintro e u4 ⟨rfl, hb⟩
    have HEu4 : Hid (Below u3.heap.size u3 u4) := hb
    clear hb
    have HXu4 : Hid (u4.heap[w.heap.size]? = some (.cells (hvA x) 23 (0, 0))) := (HEu4.out.block _ (by omega)).trans HXu3.out
    have HPu4 : Hid (u4.heap[w.heap.size + 1]? = some (.cells (pkA ph pr) 25 (0, 0))) := (HEu4.out.block _ (by omega)).trans HPu3.out
    have HA7u4 : Hid (u4.heap[g7]? = some (.cells (pkA (h : Int) (nodK x h 0)) 25 (0, 0))) := (HEu4.out.block _ (by omega)).trans HA7u3.out
    have HA9u4 : Hid (u4.heap[g9]? = some (.cells (pkA (h : Int) (nodK x h 0)) 25 (0, 0))) := (HEu4.out.block _ (by omega)).trans HA9u3.out
    have HA11u4 : Hid (u4.heap[g11]? = some (.cells (pkA 0 zh16) 25 (0, 0))) := (HEu4.out.block _ (by omega)).trans HA11u3.out
    have HBu4 : Hid (Below w.heap.size w u4) := HBu3.out.trans (HEu4.out.mono (by omega))
    have hsu4 : g11 < u4.heap.size ∧ g7 < u4.heap.size ∧ g9 < u4.heap.size ∧ w.heap.size + 2 ≤ u4.heap.size := by have := HEu4.out.size; omega
    go_wp2_with fail
    refine hK.out _ _ ⟨HXu4.out, HPu4.out, HA7u4.out, HA9u4.out, HA11u4.out⟩ (fun hHeld => ?_)
    clear hK K
    try simp only [Act.put, List.getElem_toArray, List.getElem_cons_succ, List.getElem_cons_zero, List.setIfInBounds_toArray, List.set_cons_zero, List.set_cons_succ]
    refine wpAnyH_ready (rs := [31]) (by kernel_rfl) (by simp) (AllReadyH.cons (o := _) rfl (fun K hK => ?_) AllReadyH.nil)
    go_simp
    with_reducible refine ((HRVA.out u4)).mono ?_
    rintro e u5 ⟨rfl, hb⟩
    have HEu5 : Hid (Below u4.heap.size u4 u5) := hb
    clear hb
    have HXu5 : Hid (u5.heap[w.heap.size]? = some (.cells (hvA x) 23 (0, 0))) := (HEu5.out.block _ (by omega)).trans HXu4.out
    have HPu5 : Hid (u5.heap[w.heap.size + 1]? = some (.cells (pkA ph pr) 25 (0, 0))) := (HEu5.out.block _ (by omega)).trans HPu4.out
    have HA7u5 : Hid (u5.heap[g7]? = some (.cells (pkA (h : Int) (nodK x h 0)) 25 (0, 0))) := (HEu5.out.block _ (by omega)).trans HA7u4.out
    have HA9u5 : Hid (u5.heap[g9]? = some (.cells (pkA (h : Int) (nodK x h 0)) 25 (0, 0))) := (HEu5.out.block _ (by omega)).trans HA9u4.out
    have HA11u5 : Hid (u5.heap[g11]? = some (.cells (pkA 0 zh16) 25 (0, 0))) := (HEu5.out.block _ (by omega)).trans HA11u4.out
    have HBu5 : Hid (Below w.heap.size w u5) := HBu4.out.trans (HEu5.out.mono (by omega))
    have hsu5 : g11 < u5.heap.size ∧ g7 < u5.heap.size ∧ g9 < u5.heap.size ∧ w.heap.size + 2 ≤ u5.heap.size := by have := HEu5.out.size; omega
    go_wp2_with fail
    refine hK.out _ _ ⟨HXu5.out, HPu5.out, HA7u5.out, HA9u5.out, HA11u5.out⟩ (fun hHeld => ?_)
    clear hK K
    try simp only [Act.put, List.getElem_toArray, List.getElem_cons_succ, List.getElem_cons_zero, List.setIfInBounds_toArray, List.set_cons_zero, List.set_cons_succ]
    refine wpAnyH_take (i := 32) (oi := _) (v := ?v32n56) rfl (by kernel_rfl) (by kernel_rfl) (by kernel_rfl) (fun _ _ _ h => h) (Or.inl ⟨by rfl, ?hy32n56⟩) (by assumption) ?rest32n56
    case hy32n56 =>
      intro w' hSw
      go_simp
      try with_reducible rfl
    try simp only [Act.put, List.getElem_toArray, List.getElem_cons_succ, List.getElem_cons_zero, List.setIfInBounds_toArray, List.set_cons_zero, List.set_cons_succ]
    refine wpAnyH_take (i := 33) (oi := _) (v := ?v33n57) rfl (by kernel_rfl) (by kernel_rfl) (by kernel_rfl) (fun _ _ _ h => h) (Or.inl ⟨by rfl, ?hy33n57⟩) (by assumption) ?rest33n57
    case hy33n57 =>
      intro w' hSw
      go_simp
      try with_reducible rfl
    try simp only [Act.put, List.getElem_toArray, List.getElem_cons_succ, List.getElem_cons_zero, List.setIfInBounds_toArray, List.set_cons_zero, List.set_cons_succ]
    refine wpAnyH_take (i := 34) (oi := _) (v := ?v34n58) rfl (by kernel_rfl) (by kernel_rfl) (by kernel_rfl) (fun _ _ _ h => h) (Or.inl ⟨by rfl, ?hy34n58⟩) (by assumption) ?rest34n58
    case hy34n58 =>
      intro w' hSw
      go_simp
      try with_reducible rfl
    try simp only [Act.put, List.getElem_toArray, List.getElem_cons_succ, List.getElem_cons_zero, List.setIfInBounds_toArray, List.set_cons_zero, List.set_cons_succ]
    refine wpAnyH_take (i := 35) (oi := _) (v := ?v35n59) rfl (by kernel_rfl) (by kernel_rfl) (by kernel_rfl) (fun _ _ _ h => h) (Or.inl ⟨by rfl, ?hy35n59⟩) (by assumption) ?rest35n59
    case hy35n59 =>
      intro w' hSw
      go_simp
      try with_reducible rfl
    try simp only [Act.put, List.getElem_toArray, List.getElem_cons_succ, List.getElem_cons_zero, List.setIfInBounds_toArray, List.set_cons_zero, List.set_cons_succ]
    refine wpAnyH_take (i := 36) (oi := _) (v := ?v36n60) rfl (by kernel_rfl) (by kernel_rfl) (by kernel_rfl) (fun _ _ _ h => h) (Or.inl ⟨by rfl, ?hy36n60⟩) (by assumption) ?rest36n60
    case hy36n60 =>
      intro w' hSw
      go_simp
      try with_reducible rfl
    try simp only [Act.put, List.getElem_toArray, List.getElem_cons_succ, List.getElem_cons_zero, List.setIfInBounds_toArray, List.set_cons_zero, List.set_cons_succ]
    refine wpAnyH_take (i := 37) (oi := _) (v := ?v37n61) rfl (by kernel_rfl) (by kernel_rfl) (by kernel_rfl) (fun _ _ _ h => h) (Or.inl ⟨by rfl, ?hy37n61⟩) (by assumption) ?rest37n61
    case hy37n61 =>
      intro w' hSw
      have c1 := pk_h hSw.2.1
      go_simp
      try with_reducible rfl
    try simp only [Act.put, List.getElem_toArray, List.getElem_cons_succ, List.getElem_cons_zero, List.setIfInBounds_toArray, List.set_cons_zero, List.set_cons_succ]
    refine wpAnyH_take (i := 38) (oi := _) (v := ?v38n62) rfl (by kernel_rfl) (by kernel_rfl) (by kernel_rfl) (fun _ _ _ h => h) (Or.inl ⟨by rfl, ?hy38n62⟩) (by assumption) ?rest38n62
    case hy38n62 =>
      intro w' hSw
      go_simp
      try with_reducible rfl
    try simp only [Act.put, List.getElem_toArray, List.getElem_cons_succ, List.getElem_cons_zero, List.setIfInBounds_toArray, List.set_cons_zero, List.set_cons_succ]
    refine' wpAnyH_take (i := 39) (oi := _) (v := _) rfl (by kernel_rfl) (by kernel_rfl) (by kernel_rfl) (fun _ _ _ h => h) (yieldsIf_load_mid (by rfl) _ _ rfl _ _ rfl _ _ ?hS39n63 Tryd.underlying23 rfl HIP.out) (by assumption) ?rest39n63
    case hS39n63 =>
      intro w' hSw
      exact pk_r hSw.2.1
    try simp only [Act.put, List.getElem_toArray, List.getElem_cons_succ, List.getElem_cons_zero, List.setIfInBounds_toArray, List.set_cons_zero, List.set_cons_succ]
    refine' wpAnyH_take (i := 40) (oi := _) (v := _) rfl (by kernel_rfl) (by kernel_rfl) (by kernel_rfl) (fun _ _ _ h => h) (yieldsIf_load_mid (by rfl) _ _ rfl _ _ rfl _ _ ?hS40n64 Tryd.underlying23 rfl HIX.out) (by assumption) ?rest40n64
    case hS40n64 =>
      intro w' hSw
      exact row_rngK hSw.1
    try simp only [Act.put, List.getElem_toArray, List.getElem_cons_succ, List.getElem_cons_zero, List.setIfInBounds_toArray, List.set_cons_zero, List.set_cons_succ]
    refine wpAnyH_take (i := 42) (oi := _) (v := ?v42n65) rfl (by kernel_rfl) (by kernel_rfl) (by kernel_rfl) (fun _ _ _ h => h) (Or.inl ⟨by rfl, ?hy42n65⟩) (by assumption) ?rest42n65
    case hy42n65 =>
      intro w' hSw
      go_simp
      try with_reducible rfl
    try simp only [Act.put, List.getElem_toArray, List.getElem_cons_succ, List.getElem_cons_zero, List.setIfInBounds_toArray, List.set_cons_zero, List.set_cons_succ]
    refine wpAnyH_take (i := 43) (oi := _) (v := ?v43n66) rfl (by kernel_rfl) (by kernel_rfl) (by kernel_rfl) (fun _ _ _ h => h) (Or.inl ⟨by rfl, ?hy43n66⟩) (by assumption) ?rest43n66
    case hy43n66 =>
      intro w' hSw
      go_simp
      try with_reducible rfl
    try simp only [Act.put, List.getElem_toArray, List.getElem_cons_succ, List.getElem_cons_zero, List.setIfInBounds_toArray, List.set_cons_zero, List.set_cons_succ]
    refine wpAnyH_take (i := 44) (oi := _) (v := ?v44n67) rfl (by kernel_rfl) (by kernel_rfl) (by kernel_rfl) (fun _ _ _ h => h) (Or.inl ⟨by rfl, ?hy44n67⟩) (by assumption) ?rest44n67
    case hy44n67 =>
      intro w' hSw
      have c1 := pk_h hSw.2.1
      go_simp
      try with_reducible rfl
    try simp only [Act.put, List.getElem_toArray, List.getElem_cons_succ, List.getElem_cons_zero, List.setIfInBounds_toArray, List.set_cons_zero, List.set_cons_succ]
    refine wpAnyH_take (i := 45) (oi := _) (v := ?v45n68) rfl (by kernel_rfl) (by kernel_rfl) (by kernel_rfl) (fun _ _ _ h => h) (Or.inl ⟨by rfl, ?hy45n68⟩) (by assumption) ?rest45n68
    case hy45n68 =>
      intro w' hSw
      go_simp
      try with_reducible rfl
    try simp only [Act.put, List.getElem_toArray, List.getElem_cons_succ, List.getElem_cons_zero, List.setIfInBounds_toArray, List.set_cons_zero, List.set_cons_succ]
    refine' wpAnyH_take (i := 46) (oi := _) (v := _) rfl (by kernel_rfl) (by kernel_rfl) (by kernel_rfl) (fun _ _ _ h => h) (yieldsIf_load_mid (by rfl) _ _ rfl _ _ rfl _ _ ?hS46n69 Tryd.underlying23 rfl HIP.out) (by assumption) ?rest46n69
    case hS46n69 =>
      intro w' hSw
      exact pk_r hSw.2.1
    try simp only [Act.put, List.getElem_toArray, List.getElem_cons_succ, List.getElem_cons_zero, List.setIfInBounds_toArray, List.set_cons_zero, List.set_cons_succ]
    refine' wpAnyH_take (i := 47) (oi := _) (v := _) rfl (by kernel_rfl) (by kernel_rfl) (by kernel_rfl) (fun _ _ _ h => h) (yieldsIf_load_mid (by rfl) _ _ rfl _ _ rfl _ _ ?hS47n70 Tryd.underlying23 rfl HIX.out) (by assumption) ?rest47n70
    case hS47n70 =>
      intro w' hSw
      exact row_rngK hSw.1
    try simp only [Act.put, List.getElem_toArray, List.getElem_cons_succ, List.getElem_cons_zero, List.setIfInBounds_toArray, List.set_cons_zero, List.set_cons_succ]
    refine wpAnyH_ready (rs := [41]) (by kernel_rfl) (by simp) (AllReadyH.cons (o := _) rfl (fun K hK => ?_) AllReadyH.nil)
    go_simp
    with_reducible refine ((HJ.out u5 HBu5.out (by omega))).mono ?_
    rintro e u6 ⟨rfl, hb⟩
    have HEu6 : Hid (Below u5.heap.size u5 u6) := hb
    clear hb
    have HXu6 : Hid (u6.heap[w.heap.size]? = some (.cells (hvA x) 23 (0, 0))) := (HEu6.out.block _ (by omega)).trans HXu5.out
    have HPu6 : Hid (u6.heap[w.heap.size + 1]? = some (.cells (pkA ph pr) 25 (0, 0))) := (HEu6.out.block _ (by omega)).trans HPu5.out
    have HA7u6 : Hid (u6.heap[g7]? = some (.cells (pkA (h : Int) (nodK x h 0)) 25 (0, 0))) := (HEu6.out.block _ (by omega)).trans HA7u5.out
    have HA9u6 : Hid (u6.heap[g9]? = some (.cells (pkA (h : Int) (nodK x h 0)) 25 (0, 0))) := (HEu6.out.block _ (by omega)).trans HA9u5.out
    have HA11u6 : Hid (u6.heap[g11]? = some (.cells (pkA 0 zh16) 25 (0, 0))) := (HEu6.out.block _ (by omega)).trans HA11u5.out
    have HBu6 : Hid (Below w.heap.size w u6) := HBu5.out.trans (HEu6.out.mono (by omega))
    have hsu6 : g11 < u6.heap.size ∧ g7 < u6.heap.size ∧ g9 < u6.heap.size ∧ w.heap.size + 2 ≤ u6.heap.size := by have := HEu6.out.size; omega
    go_wp2_with fail
    refine hK.out _ _ ⟨HXu6.out, HPu6.out, HA7u6.out, HA9u6.out, HA11u6.out⟩ (fun hHeld => ?_)
    clear hK K
    try simp only [Act.put, List.getElem_toArray, List.getElem_cons_succ, List.getElem_cons_zero, List.setIfInBounds_toArray, List.set_cons_zero, List.set_cons_succ]
    refine wpAnyH_ready (rs := [48]) (by kernel_rfl) (by simp) (AllReadyH.cons (o := _) rfl (fun K hK => ?_) AllReadyH.nil)
    go_simp
    with_reducible refine ((HRJ.out u6)).mono ?_
    rintro e u7 ⟨rfl, hb⟩
    have HEu7 : Hid (Below u6.heap.size u6 u7) := hb
    clear hb
    have HXu7 : Hid (u7.heap[w.heap.size]? = some (.cells (hvA x) 23 (0, 0))) := (HEu7.out.block _ (by omega)).trans HXu6.out
    have HPu7 : Hid (u7.heap[w.heap.size + 1]? = some (.cells (pkA ph pr) 25 (0, 0))) := (HEu7.out.block _ (by omega)).trans HPu6.out
    have HA7u7 : Hid (u7.heap[g7]? = some (.cells (pkA (h : Int) (nodK x h 0)) 25 (0, 0))) := (HEu7.out.block _ (by omega)).trans HA7u6.out
    have HA9u7 : Hid (u7.heap[g9]? = some (.cells (pkA (h : Int) (nodK x h 0)) 25 (0, 0))) := (HEu7.out.block _ (by omega)).trans HA9u6.out
    have HA11u7 : Hid (u7.heap[g11]? = some (.cells (pkA 0 zh16) 25 (0, 0))) := (HEu7.out.block _ (by omega)).trans HA11u6.out
    have HBu7 : Hid (Below w.heap.size w u7) := HBu6.out.trans (HEu7.out.mono (by omega))
    have hsu7 : g11 < u7.heap.size ∧ g7 < u7.heap.size ∧ g9 < u7.heap.size ∧ w.heap.size + 2 ≤ u7.heap.size := by have := HEu7.out.size; omega
    go_wp2_with fail
    refine hK.out _ _ ⟨HXu7.out, HPu7.out, HA7u7.out, HA9u7.out, HA11u7.out⟩ (fun hHeld => ?_)
    clear hK K
    try simp only [Act.put, List.getElem_toArray, List.getElem_cons_succ, List.getElem_cons_zero, List.setIfInBounds_toArray, List.set_cons_zero, List.set_cons_succ]
    refine wpAnyH_take (i := 49) (oi := _) (v := ?v49n71) rfl (by kernel_rfl) (by kernel_rfl) (by kernel_rfl) (fun _ _ _ h => h) (Or.inl ⟨by rfl, ?hy49n71⟩) (by assumption) ?rest49n71
    case hy49n71 =>
      intro w' hSw
      refine exec_eqK (x := .tmp 81) (y := .tmp 88) (by kernel_rfl) (eqIn_halfJ (joinB_H16 hg ph pr x) w') ?_ ?_ ?_ <;> rfl
    try simp only [Act.put, List.getElem_toArray, List.getElem_cons_succ, List.getElem_cons_zero, List.setIfInBounds_toArray, List.set_cons_zero, List.set_cons_succ]
    refine wpAnyH_take (i := 50) (oi := _) (v := ?v50n72) rfl (by kernel_rfl) (by kernel_rfl) (by kernel_rfl) (fun _ _ _ h => h) (Or.inl ⟨by rfl, ?hy50n72⟩) (by assumption) ?rest50n72
    case hy50n72 =>
      intro w' hSw
      go_simp
      try with_reducible rfl
    try simp only [Act.put, List.getElem_toArray, List.getElem_cons_succ, List.getElem_cons_zero, List.setIfInBounds_toArray, List.set_cons_zero, List.set_cons_succ]
    refine wpAnyH_take (i := 51) (oi := _) (v := ?v51n73) rfl (by kernel_rfl) (by kernel_rfl) (by kernel_rfl) (fun _ _ _ h => h) (Or.inl ⟨by rfl, ?hy51n73⟩) (by assumption) ?rest51n73
    case hy51n73 =>
      intro w' hSw
      go_simp
      try with_reducible rfl
    try simp only [Act.put, List.getElem_toArray, List.getElem_cons_succ, List.getElem_cons_zero, List.setIfInBounds_toArray, List.set_cons_zero, List.set_cons_succ]
    refine wpAnyH_done (by kernel_rfl) ?_ _
    go_wp2_with fail
    go_ret
    exact ⟨rfl, HBu7.out⟩

  · by_cases h6 : 6 < hg
    · have HVN : Hid (hgtB hg = false) := by show _ = _; unfold hgtB; simp; omega
      have q1 : decide (hg < 0) = false := by simp; omega
      have q2 : decide (hg > 6) = true := by simp; omega
      clear h0 h6
      have HKd : Hid (KayIn wd) := HK.out.below HAd.out.b hk0
      go_wp2_with (refine wpList_load_row rfl 23 _ rfl w.heap.size rfl 23 _ (0, 0) _ HAd.out.x Tryd.underlying23 rfl (info_h HX.out) ?_)
      refine (new_no x hg wd HVN.out).mono ?_
      rintro e wf ⟨rfl, hbf⟩
      have HZf : Hid (wf.heap[g11]? = some (.cells (pkA 0 zh16) 25 (0, 0))) := (hbf.block _ (by omega)).trans HZ3.out
      have HBf := Lib.hid hbf
      have hsf := hbf.size
      clear hbf
      go_wp2_with (refine wpList_store_row rfl 25 _ _ rfl g11 (pkA 0 zh16) rfl rfl 25 _ HZf.out (info_pk zh16_H16) rfl (one_pk _ _) ?_; generalize hwe : World.setRow wf _ _ = we; have HA11we : Hid (we.heap[g11]? = some (.cells (pkA 0 zh16) 25 (0, 0))) := (by rw [← hwe]; exact setRow_heap _ _ _ _ _ _ HZf.out); have HA7we : Hid (we.heap[g7]? = some (.cells (pkA (h : Int) (nodK x h 0)) 25 (0, 0))) := (by rw [← hwe]; exact (setRow_other _ _ _ _ (by omega)).trans ((HBf.out.block _ (by omega)).trans H7d.out)); have HA9we : Hid (we.heap[g9]? = some (.cells (pkA (h : Int) (nodK x h 0)) 25 (0, 0))) := (by rw [← hwe]; exact (setRow_other _ _ _ _ (by omega)).trans ((HBf.out.block _ (by omega)).trans H9d.out)); have HAe : Hid (KkA w x ph pr we) := (by rw [← hwe]; exact ⟨(setRow_other _ _ _ _ (by omega)).trans ((HBf.out.block _ (by omega)).trans HAd.out.x), (setRow_other _ _ _ _ (by omega)).trans ((HBf.out.block _ (by omega)).trans HAd.out.p), below_setRow (HAd.out.b.trans (HBf.out.mono (by omega))) (by omega) _, by simp [World.setRow]; omega⟩); have hge : g11 < we.heap.size := (by rw [← hwe]; simp [World.setRow]; omega); clear hwe)
      have HXwe : Hid (we.heap[w.heap.size]? = some (.cells (hvA x) 23 (0, 0))) := HAe.out.x
      have HPwe : Hid (we.heap[w.heap.size + 1]? = some (.cells (pkA ph pr) 25 (0, 0))) := HAe.out.p
      have HBwe : Hid (Below w.heap.size w we) := HAe.out.b
      have hswe : g11 < we.heap.size ∧ g7 < we.heap.size ∧ g9 < we.heap.size ∧ w.heap.size + 2 ≤ we.heap.size := by have := HAe.out.s; omega
      have HAW := Lib.hid (awake_any we.drew (HK.out.below HBwe.out.drew hk0) (by have := HBwe.out.drew.size; omega))
      refine wp_region_held_drew (S := fun w' => w'.heap[w.heap.size]? = some (.cells (hvA x) 23 (0, 0)) ∧ w'.heap[w.heap.size + 1]? = some (.cells (pkA ph pr) 25 (0, 0)) ∧ w'.heap[g7]? = some (.cells (pkA (h : Int) (nodK x h 0)) 25 (0, 0)) ∧ w'.heap[g9]? = some (.cells (pkA (h : Int) (nodK x h 0)) 25 (0, 0)) ∧ w'.heap[g11]? = some (.cells (pkA 0 zh16) 25 (0, 0))) (by kernel_rfl) ⟨HXwe.out, HPwe.out, HA7we.out, HA9we.out, HA11we.out⟩ (fun hHeld => ?_)
      refine wpAnyH_ready (rs := [0]) (by kernel_rfl) (by simp) (AllReadyH.cons (o := _) rfl (fun K hK => ?_) AllReadyH.nil)
      go_simp
      with_reducible refine (HAW.out).mono ?_
      rintro e u1 ⟨rfl, hb⟩
      have HEu1 : Hid (Below we.heap.size we u1) := (Below.refl _ _).drew.trans hb
      clear hb
      have HXu1 : Hid (u1.heap[w.heap.size]? = some (.cells (hvA x) 23 (0, 0))) := (HEu1.out.block _ (by omega)).trans HXwe.out
      have HPu1 : Hid (u1.heap[w.heap.size + 1]? = some (.cells (pkA ph pr) 25 (0, 0))) := (HEu1.out.block _ (by omega)).trans HPwe.out
      have HA7u1 : Hid (u1.heap[g7]? = some (.cells (pkA (h : Int) (nodK x h 0)) 25 (0, 0))) := (HEu1.out.block _ (by omega)).trans HA7we.out
      have HA9u1 : Hid (u1.heap[g9]? = some (.cells (pkA (h : Int) (nodK x h 0)) 25 (0, 0))) := (HEu1.out.block _ (by omega)).trans HA9we.out
      have HA11u1 : Hid (u1.heap[g11]? = some (.cells (pkA 0 zh16) 25 (0, 0))) := (HEu1.out.block _ (by omega)).trans HA11we.out
      have HBu1 : Hid (Below w.heap.size w u1) := HBwe.out.trans (HEu1.out.mono (by omega))
      have hsu1 : g11 < u1.heap.size ∧ g7 < u1.heap.size ∧ g9 < u1.heap.size ∧ w.heap.size + 2 ≤ u1.heap.size := by have := HEu1.out.size; omega
      go_wp2_with fail
      refine hK.out _ _ ⟨HXu1.out, HPu1.out, HA7u1.out, HA9u1.out, HA11u1.out⟩ (fun hHeld => ?_)
      clear hK K
      try simp only [Act.put, List.getElem_toArray, List.getElem_cons_succ, List.getElem_cons_zero, List.setIfInBounds_toArray, List.set_cons_zero, List.set_cons_succ]
      refine wpAnyH_take (i := 1) (oi := _) (v := ?v1n74) rfl (by kernel_rfl) (by kernel_rfl) (by kernel_rfl) (fun _ _ _ h => h) (Or.inl ⟨by rfl, ?hy1n74⟩) (by assumption) ?rest1n74
      case hy1n74 =>
        intro w' hSw
        go_simp
        try with_reducible rfl
      try simp only [Act.put, List.getElem_toArray, List.getElem_cons_succ, List.getElem_cons_zero, List.setIfInBounds_toArray, List.set_cons_zero, List.set_cons_succ]
      refine wpAnyH_take (i := 2) (oi := _) (v := ?v2n75) rfl (by kernel_rfl) (by kernel_rfl) (by kernel_rfl) (fun _ _ _ h => h) (Or.inl ⟨by rfl, ?hy2n75⟩) (by assumption) ?rest2n75
      case hy2n75 =>
        intro w' hSw
        go_simp
        try with_reducible rfl
      try simp only [Act.put, List.getElem_toArray, List.getElem_cons_succ, List.getElem_cons_zero, List.setIfInBounds_toArray, List.set_cons_zero, List.set_cons_succ]
      refine wpAnyH_take (i := 3) (oi := _) (v := ?v3n76) rfl (by kernel_rfl) (by kernel_rfl) (by kernel_rfl) (fun _ _ _ h => h) (Or.inl ⟨by rfl, ?hy3n76⟩) (by assumption) ?rest3n76
      case hy3n76 =>
        intro w' hSw
        go_simp
        try with_reducible rfl
      try simp only [Act.put, List.getElem_toArray, List.getElem_cons_succ, List.getElem_cons_zero, List.setIfInBounds_toArray, List.set_cons_zero, List.set_cons_succ]
      refine wpAnyH_take (i := 4) (oi := _) (v := ?v4n77) rfl (by kernel_rfl) (by kernel_rfl) (by kernel_rfl) (fun _ _ _ h => h) (Or.inl ⟨by rfl, ?hy4n77⟩) (by assumption) ?rest4n77
      case hy4n77 =>
        intro w' hSw
        go_simp
        try with_reducible rfl
      try simp only [Act.put, List.getElem_toArray, List.getElem_cons_succ, List.getElem_cons_zero, List.setIfInBounds_toArray, List.set_cons_zero, List.set_cons_succ]
      refine wpAnyH_take (i := 5) (oi := _) (v := ?v5n78) rfl (by kernel_rfl) (by kernel_rfl) (by kernel_rfl) (fun _ _ _ h => h) (Or.inl ⟨by rfl, ?hy5n78⟩) (by assumption) ?rest5n78
      case hy5n78 =>
        intro w' hSw
        go_simp
        try with_reducible rfl
      try simp only [Act.put, List.getElem_toArray, List.getElem_cons_succ, List.getElem_cons_zero, List.setIfInBounds_toArray, List.set_cons_zero, List.set_cons_succ]
      refine wpAnyH_take (i := 6) (oi := _) (v := ?v6n79) rfl (by kernel_rfl) (by kernel_rfl) (by kernel_rfl) (fun _ _ _ h => h) (Or.inl ⟨by rfl, ?hy6n79⟩) (by assumption) ?rest6n79
      case hy6n79 =>
        intro w' hSw
        go_simp
        try with_reducible rfl
      try simp only [Act.put, List.getElem_toArray, List.getElem_cons_succ, List.getElem_cons_zero, List.setIfInBounds_toArray, List.set_cons_zero, List.set_cons_succ]
      refine' wpAnyH_take (i := 7) (oi := _) (v := _) rfl (by kernel_rfl) (by kernel_rfl) (by kernel_rfl) (fun _ _ _ h => h) (yieldsIf_load_mid (by rfl) _ _ rfl _ _ rfl _ _ ?hS7n80 Tryd.underlying25 rfl (info_pkL HNK.out)) (by assumption) ?rest7n80
      case hS7n80 =>
        intro w' hSw
        exact row_rngK hSw.2.2.1
      try simp only [Act.put, List.getElem_toArray, List.getElem_cons_succ, List.getElem_cons_zero, List.setIfInBounds_toArray, List.set_cons_zero, List.set_cons_succ]
      refine' wpAnyH_take (i := 8) (oi := _) (v := _) rfl (by kernel_rfl) (by kernel_rfl) (by kernel_rfl) (fun _ _ _ h => h) (yieldsIf_load_mid (by rfl) _ _ rfl _ _ rfl _ _ ?hS8n81 Tryd.underlying25 rfl (info_pkL HNK.out)) (by assumption) ?rest8n81
      case hS8n81 =>
        intro w' hSw
        exact row_rngK hSw.2.2.2.1
      try simp only [Act.put, List.getElem_toArray, List.getElem_cons_succ, List.getElem_cons_zero, List.setIfInBounds_toArray, List.set_cons_zero, List.set_cons_succ]
      refine wpAnyH_take (i := 9) (oi := _) (v := ?v9n82) rfl (by kernel_rfl) (by kernel_rfl) (by kernel_rfl) (fun _ _ _ h => h) (Or.inl ⟨by rfl, ?hy9n82⟩) (by assumption) ?rest9n82
      case hy9n82 =>
        intro w' hSw
        refine exec_eqK (x := .tmp 47) (y := .tmp 48) (by kernel_rfl) (eqPk h (nodK x h 0) HNK.out w') ?_ ?_ ?_ <;> rfl
      try simp only [Act.put, List.getElem_toArray, List.getElem_cons_succ, List.getElem_cons_zero, List.setIfInBounds_toArray, List.set_cons_zero, List.set_cons_succ]
      refine wpAnyH_take (i := 10) (oi := _) (v := ?v10n83) rfl (by kernel_rfl) (by kernel_rfl) (by kernel_rfl) (fun _ _ _ h => h) (Or.inl ⟨by rfl, ?hy10n83⟩) (by assumption) ?rest10n83
      case hy10n83 =>
        intro w' hSw
        go_simp
        try with_reducible rfl
      try simp only [Act.put, List.getElem_toArray, List.getElem_cons_succ, List.getElem_cons_zero, List.setIfInBounds_toArray, List.set_cons_zero, List.set_cons_succ]
      refine wpAnyH_take (i := 11) (oi := _) (v := ?v11n84) rfl (by kernel_rfl) (by kernel_rfl) (by kernel_rfl) (fun _ _ _ h => h) (Or.inl ⟨by rfl, ?hy11n84⟩) (by assumption) ?rest11n84
      case hy11n84 =>
        intro w' hSw
        go_simp
        try with_reducible rfl
      try simp only [Act.put, List.getElem_toArray, List.getElem_cons_succ, List.getElem_cons_zero, List.setIfInBounds_toArray, List.set_cons_zero, List.set_cons_succ]
      refine wpAnyH_take (i := 12) (oi := _) (v := ?v12n85) rfl (by kernel_rfl) (by kernel_rfl) (by kernel_rfl) (fun _ _ _ h => h) (Or.inl ⟨by rfl, ?hy12n85⟩) (by assumption) ?rest12n85
      case hy12n85 =>
        intro w' hSw
        go_simp
        try with_reducible rfl
      try simp only [Act.put, List.getElem_toArray, List.getElem_cons_succ, List.getElem_cons_zero, List.setIfInBounds_toArray, List.set_cons_zero, List.set_cons_succ]
      refine wpAnyH_take (i := 13) (oi := _) (v := ?v13n86) rfl (by kernel_rfl) (by kernel_rfl) (by kernel_rfl) (fun _ _ _ h => h) (Or.inl ⟨by rfl, ?hy13n86⟩) (by assumption) ?rest13n86
      case hy13n86 =>
        intro w' hSw
        go_simp
        try with_reducible rfl
      try simp only [Act.put, List.getElem_toArray, List.getElem_cons_succ, List.getElem_cons_zero, List.setIfInBounds_toArray, List.set_cons_zero, List.set_cons_succ]
      refine wpAnyH_take (i := 14) (oi := _) (v := ?v14n87) rfl (by kernel_rfl) (by kernel_rfl) (by kernel_rfl) (fun _ _ _ h => h) (Or.inl ⟨by rfl, ?hy14n87⟩) (by assumption) ?rest14n87
      case hy14n87 =>
        intro w' hSw
        go_simp
        try with_reducible rfl
      try simp only [Act.put, List.getElem_toArray, List.getElem_cons_succ, List.getElem_cons_zero, List.setIfInBounds_toArray, List.set_cons_zero, List.set_cons_succ]
      refine wpAnyH_take (i := 15) (oi := _) (v := ?v15n88) rfl (by kernel_rfl) (by kernel_rfl) (by kernel_rfl) (fun _ _ _ h => h) (Or.inl ⟨by rfl, ?hy15n88⟩) (by assumption) ?rest15n88
      case hy15n88 =>
        intro w' hSw
        go_simp
        try with_reducible rfl
      try simp only [Act.put, List.getElem_toArray, List.getElem_cons_succ, List.getElem_cons_zero, List.setIfInBounds_toArray, List.set_cons_zero, List.set_cons_succ]
      refine' wpAnyH_take (i := 16) (oi := _) (v := _) rfl (by kernel_rfl) (by kernel_rfl) (by kernel_rfl) (fun _ _ _ h => h) (yieldsIf_load_mid (by rfl) _ _ rfl _ _ rfl _ _ ?hS16n89 Tryd.underlying25 rfl (info_pkL zh16_H16)) (by assumption) ?rest16n89
      case hS16n89 =>
        intro w' hSw
        exact row_rngK hSw.2.2.2.2
      try simp only [Act.put, List.getElem_toArray, List.getElem_cons_succ, List.getElem_cons_zero, List.setIfInBounds_toArray, List.set_cons_zero, List.set_cons_succ]
      refine wpAnyH_take (i := 17) (oi := _) (v := ?v17n90) rfl (by kernel_rfl) (by kernel_rfl) (by kernel_rfl) (fun _ _ _ h => h) (Or.inl ⟨by rfl, ?hy17n90⟩) (by assumption) ?rest17n90
      case hy17n90 =>
        intro w' hSw
        go_simp
        try with_reducible rfl
      try simp only [Act.put, List.getElem_toArray, List.getElem_cons_succ, List.getElem_cons_zero, List.setIfInBounds_toArray, List.set_cons_zero, List.set_cons_succ]
      refine wpAnyH_take (i := 18) (oi := _) (v := ?v18n91) rfl (by kernel_rfl) (by kernel_rfl) (by kernel_rfl) (fun _ _ _ h => h) (Or.inl ⟨by rfl, ?hy18n91⟩) (by assumption) ?rest18n91
      case hy18n91 =>
        intro w' hSw
        refine exec_eqK (x := .tmp 56) (y := .tmp 57) (by kernel_rfl) (eqPk 0 zh16 zh16_H16 w') ?_ ?_ ?_ <;> rfl
      try simp only [Act.put, List.getElem_toArray, List.getElem_cons_succ, List.getElem_cons_zero, List.setIfInBounds_toArray, List.set_cons_zero, List.set_cons_succ]
      refine wpAnyH_take (i := 19) (oi := _) (v := ?v19n92) rfl (by kernel_rfl) (by kernel_rfl) (by kernel_rfl) (fun _ _ _ h => h) (Or.inl ⟨by rfl, ?hy19n92⟩) (by assumption) ?rest19n92
      case hy19n92 =>
        intro w' hSw
        go_simp
        try with_reducible rfl
      try simp only [Act.put, List.getElem_toArray, List.getElem_cons_succ, List.getElem_cons_zero, List.setIfInBounds_toArray, List.set_cons_zero, List.set_cons_succ]
      refine wpAnyH_take (i := 20) (oi := _) (v := ?v20n93) rfl (by kernel_rfl) (by kernel_rfl) (by kernel_rfl) (fun _ _ _ h => h) (Or.inl ⟨by rfl, ?hy20n93⟩) (by assumption) ?rest20n93
      case hy20n93 =>
        intro w' hSw
        go_simp
        try with_reducible rfl
      try simp only [Act.put, List.getElem_toArray, List.getElem_cons_succ, List.getElem_cons_zero, List.setIfInBounds_toArray, List.set_cons_zero, List.set_cons_succ]
      refine' wpAnyH_take (i := 21) (oi := _) (v := _) rfl (by kernel_rfl) (by kernel_rfl) (by kernel_rfl) (fun _ _ _ h => h) (yieldsIf_load_mid (by rfl) _ _ rfl _ _ rfl _ _ ?hS21n94 Tryd.underlying25 rfl (info_pkL HP.out)) (by assumption) ?rest21n94
      case hS21n94 =>
        intro w' hSw
        exact row_rngK hSw.2.1
      try simp only [Act.put, List.getElem_toArray, List.getElem_cons_succ, List.getElem_cons_zero, List.setIfInBounds_toArray, List.set_cons_zero, List.set_cons_succ]
      refine' wpAnyH_take (i := 23) (oi := _) (v := _) rfl (by kernel_rfl) (by kernel_rfl) (by kernel_rfl) (fun _ _ _ h => h) (yieldsIf_load_mid (by rfl) _ _ rfl _ _ rfl _ _ ?hS23n95 Tryd.underlying25 rfl (info_pkL HP.out)) (by assumption) ?rest23n95
      case hS23n95 =>
        intro w' hSw
        exact row_rngK hSw.2.1
      try simp only [Act.put, List.getElem_toArray, List.getElem_cons_succ, List.getElem_cons_zero, List.setIfInBounds_toArray, List.set_cons_zero, List.set_cons_succ]
      refine wpAnyH_ready (rs := [22]) (by kernel_rfl) (by simp) (AllReadyH.cons (o := _) rfl (fun K hK => ?_) AllReadyH.nil)
      go_simp
      with_reducible refine ((HID.out u1 HBu1.out (by omega))).mono ?_
      rintro e u2 ⟨rfl, hb⟩
      have HEu2 : Hid (Below u1.heap.size u1 u2) := hb
      clear hb
      have HXu2 : Hid (u2.heap[w.heap.size]? = some (.cells (hvA x) 23 (0, 0))) := (HEu2.out.block _ (by omega)).trans HXu1.out
      have HPu2 : Hid (u2.heap[w.heap.size + 1]? = some (.cells (pkA ph pr) 25 (0, 0))) := (HEu2.out.block _ (by omega)).trans HPu1.out
      have HA7u2 : Hid (u2.heap[g7]? = some (.cells (pkA (h : Int) (nodK x h 0)) 25 (0, 0))) := (HEu2.out.block _ (by omega)).trans HA7u1.out
      have HA9u2 : Hid (u2.heap[g9]? = some (.cells (pkA (h : Int) (nodK x h 0)) 25 (0, 0))) := (HEu2.out.block _ (by omega)).trans HA9u1.out
      have HA11u2 : Hid (u2.heap[g11]? = some (.cells (pkA 0 zh16) 25 (0, 0))) := (HEu2.out.block _ (by omega)).trans HA11u1.out
      have HBu2 : Hid (Below w.heap.size w u2) := HBu1.out.trans (HEu2.out.mono (by omega))
      have hsu2 : g11 < u2.heap.size ∧ g7 < u2.heap.size ∧ g9 < u2.heap.size ∧ w.heap.size + 2 ≤ u2.heap.size := by have := HEu2.out.size; omega
      go_wp2_with fail
      refine hK.out _ _ ⟨HXu2.out, HPu2.out, HA7u2.out, HA9u2.out, HA11u2.out⟩ (fun hHeld => ?_)
      clear hK K
      try simp only [Act.put, List.getElem_toArray, List.getElem_cons_succ, List.getElem_cons_zero, List.setIfInBounds_toArray, List.set_cons_zero, List.set_cons_succ]
      refine wpAnyH_ready (rs := [24]) (by kernel_rfl) (by simp) (AllReadyH.cons (o := _) rfl (fun K hK => ?_) AllReadyH.nil)
      go_simp
      with_reducible refine ((HRID.out u2)).mono ?_
      rintro e u3 ⟨rfl, hb⟩
      have HEu3 : Hid (Below u2.heap.size u2 u3) := hb
      clear hb
      have HXu3 : Hid (u3.heap[w.heap.size]? = some (.cells (hvA x) 23 (0, 0))) := (HEu3.out.block _ (by omega)).trans HXu2.out
      have HPu3 : Hid (u3.heap[w.heap.size + 1]? = some (.cells (pkA ph pr) 25 (0, 0))) := (HEu3.out.block _ (by omega)).trans HPu2.out
      have HA7u3 : Hid (u3.heap[g7]? = some (.cells (pkA (h : Int) (nodK x h 0)) 25 (0, 0))) := (HEu3.out.block _ (by omega)).trans HA7u2.out
      have HA9u3 : Hid (u3.heap[g9]? = some (.cells (pkA (h : Int) (nodK x h 0)) 25 (0, 0))) := (HEu3.out.block _ (by omega)).trans HA9u2.out
      have HA11u3 : Hid (u3.heap[g11]? = some (.cells (pkA 0 zh16) 25 (0, 0))) := (HEu3.out.block _ (by omega)).trans HA11u2.out
      have HBu3 : Hid (Below w.heap.size w u3) := HBu2.out.trans (HEu3.out.mono (by omega))
      have hsu3 : g11 < u3.heap.size ∧ g7 < u3.heap.size ∧ g9 < u3.heap.size ∧ w.heap.size + 2 ≤ u3.heap.size := by have := HEu3.out.size; omega
      go_wp2_with fail
      refine hK.out _ _ ⟨HXu3.out, HPu3.out, HA7u3.out, HA9u3.out, HA11u3.out⟩ (fun hHeld => ?_)
      clear hK K
      try simp only [Act.put, List.getElem_toArray, List.getElem_cons_succ, List.getElem_cons_zero, List.setIfInBounds_toArray, List.set_cons_zero, List.set_cons_succ]
      refine wpAnyH_take (i := 25) (oi := _) (v := ?v25n96) rfl (by kernel_rfl) (by kernel_rfl) (by kernel_rfl) (fun _ _ _ h => h) (Or.inl ⟨by rfl, ?hy25n96⟩) (by assumption) ?rest25n96
      case hy25n96 =>
        intro w' hSw
        refine exec_eqK (x := .tmp 62) (y := .tmp 64) (by kernel_rfl) (eqDgK (idB ph pr) w') ?_ ?_ ?_ <;> rfl
      try simp only [Act.put, List.getElem_toArray, List.getElem_cons_succ, List.getElem_cons_zero, List.setIfInBounds_toArray, List.set_cons_zero, List.set_cons_succ]
      refine wpAnyH_take (i := 26) (oi := _) (v := ?v26n97) rfl (by kernel_rfl) (by kernel_rfl) (by kernel_rfl) (fun _ _ _ h => h) (Or.inl ⟨by rfl, ?hy26n97⟩) (by assumption) ?rest26n97
      case hy26n97 =>
        intro w' hSw
        go_simp
        try with_reducible rfl
      try simp only [Act.put, List.getElem_toArray, List.getElem_cons_succ, List.getElem_cons_zero, List.setIfInBounds_toArray, List.set_cons_zero, List.set_cons_succ]
      refine wpAnyH_take (i := 27) (oi := _) (v := ?v27n98) rfl (by kernel_rfl) (by kernel_rfl) (by kernel_rfl) (fun _ _ _ h => h) (Or.inl ⟨by rfl, ?hy27n98⟩) (by assumption) ?rest27n98
      case hy27n98 =>
        intro w' hSw
        go_simp
        try with_reducible rfl
      try simp only [Act.put, List.getElem_toArray, List.getElem_cons_succ, List.getElem_cons_zero, List.setIfInBounds_toArray, List.set_cons_zero, List.set_cons_succ]
      refine' wpAnyH_take (i := 28) (oi := _) (v := _) rfl (by kernel_rfl) (by kernel_rfl) (by kernel_rfl) (fun _ _ _ h => h) (yieldsIf_load_mid (by rfl) _ _ rfl _ _ rfl _ _ ?hS28n99 Tryd.underlying25 rfl (info_pkL HP.out)) (by assumption) ?rest28n99
      case hS28n99 =>
        intro w' hSw
        exact row_rngK hSw.2.1
      try simp only [Act.put, List.getElem_toArray, List.getElem_cons_succ, List.getElem_cons_zero, List.setIfInBounds_toArray, List.set_cons_zero, List.set_cons_succ]
      refine' wpAnyH_take (i := 30) (oi := _) (v := _) rfl (by kernel_rfl) (by kernel_rfl) (by kernel_rfl) (fun _ _ _ h => h) (yieldsIf_load_mid (by rfl) _ _ rfl _ _ rfl _ _ ?hS30n100 Tryd.underlying25 rfl (info_pkL HP.out)) (by assumption) ?rest30n100
      case hS30n100 =>
        intro w' hSw
        exact row_rngK hSw.2.1
      try simp only [Act.put, List.getElem_toArray, List.getElem_cons_succ, List.getElem_cons_zero, List.setIfInBounds_toArray, List.set_cons_zero, List.set_cons_succ]
      refine wpAnyH_ready (rs := [29]) (by kernel_rfl) (by simp) (AllReadyH.cons (o := _) rfl (fun K hK => ?_) AllReadyH.nil)
      go_simp
      with_reducible refine ((HVA.out u3)).mono ?_
      rintro e u4 ⟨rfl, hb⟩
      have HEu4 : Hid (Below u3.heap.size u3 u4) := hb
      clear hb
      have HXu4 : Hid (u4.heap[w.heap.size]? = some (.cells (hvA x) 23 (0, 0))) := (HEu4.out.block _ (by omega)).trans HXu3.out
      have HPu4 : Hid (u4.heap[w.heap.size + 1]? = some (.cells (pkA ph pr) 25 (0, 0))) := (HEu4.out.block _ (by omega)).trans HPu3.out
      have HA7u4 : Hid (u4.heap[g7]? = some (.cells (pkA (h : Int) (nodK x h 0)) 25 (0, 0))) := (HEu4.out.block _ (by omega)).trans HA7u3.out
      have HA9u4 : Hid (u4.heap[g9]? = some (.cells (pkA (h : Int) (nodK x h 0)) 25 (0, 0))) := (HEu4.out.block _ (by omega)).trans HA9u3.out
      have HA11u4 : Hid (u4.heap[g11]? = some (.cells (pkA 0 zh16) 25 (0, 0))) := (HEu4.out.block _ (by omega)).trans HA11u3.out
      have HBu4 : Hid (Below w.heap.size w u4) := HBu3.out.trans (HEu4.out.mono (by omega))
      have hsu4 : g11 < u4.heap.size ∧ g7 < u4.heap.size ∧ g9 < u4.heap.size ∧ w.heap.size + 2 ≤ u4.heap.size := by have := HEu4.out.size; omega
      go_wp2_with fail
      refine hK.out _ _ ⟨HXu4.out, HPu4.out, HA7u4.out, HA9u4.out, HA11u4.out⟩ (fun hHeld => ?_)
      clear hK K
      try simp only [Act.put, List.getElem_toArray, List.getElem_cons_succ, List.getElem_cons_zero, List.setIfInBounds_toArray, List.set_cons_zero, List.set_cons_succ]
      refine wpAnyH_ready (rs := [31]) (by kernel_rfl) (by simp) (AllReadyH.cons (o := _) rfl (fun K hK => ?_) AllReadyH.nil)
      go_simp
      with_reducible refine ((HRVA.out u4)).mono ?_
      rintro e u5 ⟨rfl, hb⟩
      have HEu5 : Hid (Below u4.heap.size u4 u5) := hb
      clear hb
      have HXu5 : Hid (u5.heap[w.heap.size]? = some (.cells (hvA x) 23 (0, 0))) := (HEu5.out.block _ (by omega)).trans HXu4.out
      have HPu5 : Hid (u5.heap[w.heap.size + 1]? = some (.cells (pkA ph pr) 25 (0, 0))) := (HEu5.out.block _ (by omega)).trans HPu4.out
      have HA7u5 : Hid (u5.heap[g7]? = some (.cells (pkA (h : Int) (nodK x h 0)) 25 (0, 0))) := (HEu5.out.block _ (by omega)).trans HA7u4.out
      have HA9u5 : Hid (u5.heap[g9]? = some (.cells (pkA (h : Int) (nodK x h 0)) 25 (0, 0))) := (HEu5.out.block _ (by omega)).trans HA9u4.out
      have HA11u5 : Hid (u5.heap[g11]? = some (.cells (pkA 0 zh16) 25 (0, 0))) := (HEu5.out.block _ (by omega)).trans HA11u4.out
      have HBu5 : Hid (Below w.heap.size w u5) := HBu4.out.trans (HEu5.out.mono (by omega))
      have hsu5 : g11 < u5.heap.size ∧ g7 < u5.heap.size ∧ g9 < u5.heap.size ∧ w.heap.size + 2 ≤ u5.heap.size := by have := HEu5.out.size; omega
      go_wp2_with fail
      refine hK.out _ _ ⟨HXu5.out, HPu5.out, HA7u5.out, HA9u5.out, HA11u5.out⟩ (fun hHeld => ?_)
      clear hK K
      try simp only [Act.put, List.getElem_toArray, List.getElem_cons_succ, List.getElem_cons_zero, List.setIfInBounds_toArray, List.set_cons_zero, List.set_cons_succ]
      refine wpAnyH_take (i := 32) (oi := _) (v := ?v32n101) rfl (by kernel_rfl) (by kernel_rfl) (by kernel_rfl) (fun _ _ _ h => h) (Or.inl ⟨by rfl, ?hy32n101⟩) (by assumption) ?rest32n101
      case hy32n101 =>
        intro w' hSw
        go_simp
        try with_reducible rfl
      try simp only [Act.put, List.getElem_toArray, List.getElem_cons_succ, List.getElem_cons_zero, List.setIfInBounds_toArray, List.set_cons_zero, List.set_cons_succ]
      refine wpAnyH_take (i := 33) (oi := _) (v := ?v33n102) rfl (by kernel_rfl) (by kernel_rfl) (by kernel_rfl) (fun _ _ _ h => h) (Or.inl ⟨by rfl, ?hy33n102⟩) (by assumption) ?rest33n102
      case hy33n102 =>
        intro w' hSw
        go_simp
        try with_reducible rfl
      try simp only [Act.put, List.getElem_toArray, List.getElem_cons_succ, List.getElem_cons_zero, List.setIfInBounds_toArray, List.set_cons_zero, List.set_cons_succ]
      refine wpAnyH_take (i := 34) (oi := _) (v := ?v34n103) rfl (by kernel_rfl) (by kernel_rfl) (by kernel_rfl) (fun _ _ _ h => h) (Or.inl ⟨by rfl, ?hy34n103⟩) (by assumption) ?rest34n103
      case hy34n103 =>
        intro w' hSw
        go_simp
        try with_reducible rfl
      try simp only [Act.put, List.getElem_toArray, List.getElem_cons_succ, List.getElem_cons_zero, List.setIfInBounds_toArray, List.set_cons_zero, List.set_cons_succ]
      refine wpAnyH_take (i := 35) (oi := _) (v := ?v35n104) rfl (by kernel_rfl) (by kernel_rfl) (by kernel_rfl) (fun _ _ _ h => h) (Or.inl ⟨by rfl, ?hy35n104⟩) (by assumption) ?rest35n104
      case hy35n104 =>
        intro w' hSw
        go_simp
        try with_reducible rfl
      try simp only [Act.put, List.getElem_toArray, List.getElem_cons_succ, List.getElem_cons_zero, List.setIfInBounds_toArray, List.set_cons_zero, List.set_cons_succ]
      refine wpAnyH_take (i := 36) (oi := _) (v := ?v36n105) rfl (by kernel_rfl) (by kernel_rfl) (by kernel_rfl) (fun _ _ _ h => h) (Or.inl ⟨by rfl, ?hy36n105⟩) (by assumption) ?rest36n105
      case hy36n105 =>
        intro w' hSw
        go_simp
        try with_reducible rfl
      try simp only [Act.put, List.getElem_toArray, List.getElem_cons_succ, List.getElem_cons_zero, List.setIfInBounds_toArray, List.set_cons_zero, List.set_cons_succ]
      refine wpAnyH_take (i := 37) (oi := _) (v := ?v37n106) rfl (by kernel_rfl) (by kernel_rfl) (by kernel_rfl) (fun _ _ _ h => h) (Or.inl ⟨by rfl, ?hy37n106⟩) (by assumption) ?rest37n106
      case hy37n106 =>
        intro w' hSw
        have c1 := pk_h hSw.2.1
        go_simp
        try with_reducible rfl
      try simp only [Act.put, List.getElem_toArray, List.getElem_cons_succ, List.getElem_cons_zero, List.setIfInBounds_toArray, List.set_cons_zero, List.set_cons_succ]
      refine wpAnyH_take (i := 38) (oi := _) (v := ?v38n107) rfl (by kernel_rfl) (by kernel_rfl) (by kernel_rfl) (fun _ _ _ h => h) (Or.inl ⟨by rfl, ?hy38n107⟩) (by assumption) ?rest38n107
      case hy38n107 =>
        intro w' hSw
        go_simp
        try with_reducible rfl
      try simp only [Act.put, List.getElem_toArray, List.getElem_cons_succ, List.getElem_cons_zero, List.setIfInBounds_toArray, List.set_cons_zero, List.set_cons_succ]
      refine' wpAnyH_take (i := 39) (oi := _) (v := _) rfl (by kernel_rfl) (by kernel_rfl) (by kernel_rfl) (fun _ _ _ h => h) (yieldsIf_load_mid (by rfl) _ _ rfl _ _ rfl _ _ ?hS39n108 Tryd.underlying23 rfl HIP.out) (by assumption) ?rest39n108
      case hS39n108 =>
        intro w' hSw
        exact pk_r hSw.2.1
      try simp only [Act.put, List.getElem_toArray, List.getElem_cons_succ, List.getElem_cons_zero, List.setIfInBounds_toArray, List.set_cons_zero, List.set_cons_succ]
      refine' wpAnyH_take (i := 40) (oi := _) (v := _) rfl (by kernel_rfl) (by kernel_rfl) (by kernel_rfl) (fun _ _ _ h => h) (yieldsIf_load_mid (by rfl) _ _ rfl _ _ rfl _ _ ?hS40n109 Tryd.underlying23 rfl HIX.out) (by assumption) ?rest40n109
      case hS40n109 =>
        intro w' hSw
        exact row_rngK hSw.1
      try simp only [Act.put, List.getElem_toArray, List.getElem_cons_succ, List.getElem_cons_zero, List.setIfInBounds_toArray, List.set_cons_zero, List.set_cons_succ]
      refine wpAnyH_take (i := 42) (oi := _) (v := ?v42n110) rfl (by kernel_rfl) (by kernel_rfl) (by kernel_rfl) (fun _ _ _ h => h) (Or.inl ⟨by rfl, ?hy42n110⟩) (by assumption) ?rest42n110
      case hy42n110 =>
        intro w' hSw
        go_simp
        try with_reducible rfl
      try simp only [Act.put, List.getElem_toArray, List.getElem_cons_succ, List.getElem_cons_zero, List.setIfInBounds_toArray, List.set_cons_zero, List.set_cons_succ]
      refine wpAnyH_take (i := 43) (oi := _) (v := ?v43n111) rfl (by kernel_rfl) (by kernel_rfl) (by kernel_rfl) (fun _ _ _ h => h) (Or.inl ⟨by rfl, ?hy43n111⟩) (by assumption) ?rest43n111
      case hy43n111 =>
        intro w' hSw
        go_simp
        try with_reducible rfl
      try simp only [Act.put, List.getElem_toArray, List.getElem_cons_succ, List.getElem_cons_zero, List.setIfInBounds_toArray, List.set_cons_zero, List.set_cons_succ]
      refine wpAnyH_take (i := 44) (oi := _) (v := ?v44n112) rfl (by kernel_rfl) (by kernel_rfl) (by kernel_rfl) (fun _ _ _ h => h) (Or.inl ⟨by rfl, ?hy44n112⟩) (by assumption) ?rest44n112
      case hy44n112 =>
        intro w' hSw
        have c1 := pk_h hSw.2.1
        go_simp
        try with_reducible rfl
      try simp only [Act.put, List.getElem_toArray, List.getElem_cons_succ, List.getElem_cons_zero, List.setIfInBounds_toArray, List.set_cons_zero, List.set_cons_succ]
      refine wpAnyH_take (i := 45) (oi := _) (v := ?v45n113) rfl (by kernel_rfl) (by kernel_rfl) (by kernel_rfl) (fun _ _ _ h => h) (Or.inl ⟨by rfl, ?hy45n113⟩) (by assumption) ?rest45n113
      case hy45n113 =>
        intro w' hSw
        go_simp
        try with_reducible rfl
      try simp only [Act.put, List.getElem_toArray, List.getElem_cons_succ, List.getElem_cons_zero, List.setIfInBounds_toArray, List.set_cons_zero, List.set_cons_succ]
      refine' wpAnyH_take (i := 46) (oi := _) (v := _) rfl (by kernel_rfl) (by kernel_rfl) (by kernel_rfl) (fun _ _ _ h => h) (yieldsIf_load_mid (by rfl) _ _ rfl _ _ rfl _ _ ?hS46n114 Tryd.underlying23 rfl HIP.out) (by assumption) ?rest46n114
      case hS46n114 =>
        intro w' hSw
        exact pk_r hSw.2.1
      try simp only [Act.put, List.getElem_toArray, List.getElem_cons_succ, List.getElem_cons_zero, List.setIfInBounds_toArray, List.set_cons_zero, List.set_cons_succ]
      refine' wpAnyH_take (i := 47) (oi := _) (v := _) rfl (by kernel_rfl) (by kernel_rfl) (by kernel_rfl) (fun _ _ _ h => h) (yieldsIf_load_mid (by rfl) _ _ rfl _ _ rfl _ _ ?hS47n115 Tryd.underlying23 rfl HIX.out) (by assumption) ?rest47n115
      case hS47n115 =>
        intro w' hSw
        exact row_rngK hSw.1
      try simp only [Act.put, List.getElem_toArray, List.getElem_cons_succ, List.getElem_cons_zero, List.setIfInBounds_toArray, List.set_cons_zero, List.set_cons_succ]
      refine wpAnyH_ready (rs := [41]) (by kernel_rfl) (by simp) (AllReadyH.cons (o := _) rfl (fun K hK => ?_) AllReadyH.nil)
      go_simp
      with_reducible refine ((HJ.out u5 HBu5.out (by omega))).mono ?_
      rintro e u6 ⟨rfl, hb⟩
      have HEu6 : Hid (Below u5.heap.size u5 u6) := hb
      clear hb
      have HXu6 : Hid (u6.heap[w.heap.size]? = some (.cells (hvA x) 23 (0, 0))) := (HEu6.out.block _ (by omega)).trans HXu5.out
      have HPu6 : Hid (u6.heap[w.heap.size + 1]? = some (.cells (pkA ph pr) 25 (0, 0))) := (HEu6.out.block _ (by omega)).trans HPu5.out
      have HA7u6 : Hid (u6.heap[g7]? = some (.cells (pkA (h : Int) (nodK x h 0)) 25 (0, 0))) := (HEu6.out.block _ (by omega)).trans HA7u5.out
      have HA9u6 : Hid (u6.heap[g9]? = some (.cells (pkA (h : Int) (nodK x h 0)) 25 (0, 0))) := (HEu6.out.block _ (by omega)).trans HA9u5.out
      have HA11u6 : Hid (u6.heap[g11]? = some (.cells (pkA 0 zh16) 25 (0, 0))) := (HEu6.out.block _ (by omega)).trans HA11u5.out
      have HBu6 : Hid (Below w.heap.size w u6) := HBu5.out.trans (HEu6.out.mono (by omega))
      have hsu6 : g11 < u6.heap.size ∧ g7 < u6.heap.size ∧ g9 < u6.heap.size ∧ w.heap.size + 2 ≤ u6.heap.size := by have := HEu6.out.size; omega
      go_wp2_with fail
      refine hK.out _ _ ⟨HXu6.out, HPu6.out, HA7u6.out, HA9u6.out, HA11u6.out⟩ (fun hHeld => ?_)
      clear hK K
      try simp only [Act.put, List.getElem_toArray, List.getElem_cons_succ, List.getElem_cons_zero, List.setIfInBounds_toArray, List.set_cons_zero, List.set_cons_succ]
      refine wpAnyH_ready (rs := [48]) (by kernel_rfl) (by simp) (AllReadyH.cons (o := _) rfl (fun K hK => ?_) AllReadyH.nil)
      go_simp
      with_reducible refine ((HRJ.out u6)).mono ?_
      rintro e u7 ⟨rfl, hb⟩
      have HEu7 : Hid (Below u6.heap.size u6 u7) := hb
      clear hb
      have HXu7 : Hid (u7.heap[w.heap.size]? = some (.cells (hvA x) 23 (0, 0))) := (HEu7.out.block _ (by omega)).trans HXu6.out
      have HPu7 : Hid (u7.heap[w.heap.size + 1]? = some (.cells (pkA ph pr) 25 (0, 0))) := (HEu7.out.block _ (by omega)).trans HPu6.out
      have HA7u7 : Hid (u7.heap[g7]? = some (.cells (pkA (h : Int) (nodK x h 0)) 25 (0, 0))) := (HEu7.out.block _ (by omega)).trans HA7u6.out
      have HA9u7 : Hid (u7.heap[g9]? = some (.cells (pkA (h : Int) (nodK x h 0)) 25 (0, 0))) := (HEu7.out.block _ (by omega)).trans HA9u6.out
      have HA11u7 : Hid (u7.heap[g11]? = some (.cells (pkA 0 zh16) 25 (0, 0))) := (HEu7.out.block _ (by omega)).trans HA11u6.out
      have HBu7 : Hid (Below w.heap.size w u7) := HBu6.out.trans (HEu7.out.mono (by omega))
      have hsu7 : g11 < u7.heap.size ∧ g7 < u7.heap.size ∧ g9 < u7.heap.size ∧ w.heap.size + 2 ≤ u7.heap.size := by have := HEu7.out.size; omega
      go_wp2_with fail
      refine hK.out _ _ ⟨HXu7.out, HPu7.out, HA7u7.out, HA9u7.out, HA11u7.out⟩ (fun hHeld => ?_)
      clear hK K
      try simp only [Act.put, List.getElem_toArray, List.getElem_cons_succ, List.getElem_cons_zero, List.setIfInBounds_toArray, List.set_cons_zero, List.set_cons_succ]
      refine wpAnyH_take (i := 49) (oi := _) (v := ?v49n116) rfl (by kernel_rfl) (by kernel_rfl) (by kernel_rfl) (fun _ _ _ h => h) (Or.inl ⟨by rfl, ?hy49n116⟩) (by assumption) ?rest49n116
      case hy49n116 =>
        intro w' hSw
        refine exec_eqK (x := .tmp 81) (y := .tmp 88) (by kernel_rfl) (eqIn_halfJ (joinB_H16 hg ph pr x) w') ?_ ?_ ?_ <;> rfl
      try simp only [Act.put, List.getElem_toArray, List.getElem_cons_succ, List.getElem_cons_zero, List.setIfInBounds_toArray, List.set_cons_zero, List.set_cons_succ]
      refine wpAnyH_take (i := 50) (oi := _) (v := ?v50n117) rfl (by kernel_rfl) (by kernel_rfl) (by kernel_rfl) (fun _ _ _ h => h) (Or.inl ⟨by rfl, ?hy50n117⟩) (by assumption) ?rest50n117
      case hy50n117 =>
        intro w' hSw
        go_simp
        try with_reducible rfl
      try simp only [Act.put, List.getElem_toArray, List.getElem_cons_succ, List.getElem_cons_zero, List.setIfInBounds_toArray, List.set_cons_zero, List.set_cons_succ]
      refine wpAnyH_take (i := 51) (oi := _) (v := ?v51n118) rfl (by kernel_rfl) (by kernel_rfl) (by kernel_rfl) (fun _ _ _ h => h) (Or.inl ⟨by rfl, ?hy51n118⟩) (by assumption) ?rest51n118
      case hy51n118 =>
        intro w' hSw
        go_simp
        try with_reducible rfl
      try simp only [Act.put, List.getElem_toArray, List.getElem_cons_succ, List.getElem_cons_zero, List.setIfInBounds_toArray, List.set_cons_zero, List.set_cons_succ]
      refine wpAnyH_done (by kernel_rfl) ?_ _
      go_wp2_with fail
      go_ret
      exact ⟨rfl, HBu7.out⟩

    · skip
      have q1 : decide (hg < 0) = false := by simp; omega
      have q2 : decide (hg > 6) = false := by simp; omega
      clear h0 h6
      go_wp2_with fail
      obtain ⟨we, hwe⟩ : ∃ we, we = wd := ⟨_, rfl⟩
      have HA11we : Hid (we.heap[g11]? = some (.cells (pkA 0 zh16) 25 (0, 0))) := by rw [hwe]; exact HZ3.out
      have HA7we : Hid (we.heap[g7]? = some (.cells (pkA (h : Int) (nodK x h 0)) 25 (0, 0))) := by rw [hwe]; exact H7d.out
      have HA9we : Hid (we.heap[g9]? = some (.cells (pkA (h : Int) (nodK x h 0)) 25 (0, 0))) := by rw [hwe]; exact H9d.out
      have HAe : Hid (KkA w x ph pr we) := by rw [hwe]; exact HAd.out
      have hge : g11 < we.heap.size := by rw [hwe]; exact hi3.2.2.1
      rw [← hwe]
      clear hwe
      have HXwe : Hid (we.heap[w.heap.size]? = some (.cells (hvA x) 23 (0, 0))) := HAe.out.x
      have HPwe : Hid (we.heap[w.heap.size + 1]? = some (.cells (pkA ph pr) 25 (0, 0))) := HAe.out.p
      have HBwe : Hid (Below w.heap.size w we) := HAe.out.b
      have hswe : g11 < we.heap.size ∧ g7 < we.heap.size ∧ g9 < we.heap.size ∧ w.heap.size + 2 ≤ we.heap.size := by have := HAe.out.s; omega
      have HAW := Lib.hid (awake_any we.drew (HK.out.below HBwe.out.drew hk0) (by have := HBwe.out.drew.size; omega))
      refine wp_region_held_drew (S := fun w' => w'.heap[w.heap.size]? = some (.cells (hvA x) 23 (0, 0)) ∧ w'.heap[w.heap.size + 1]? = some (.cells (pkA ph pr) 25 (0, 0)) ∧ w'.heap[g7]? = some (.cells (pkA (h : Int) (nodK x h 0)) 25 (0, 0)) ∧ w'.heap[g9]? = some (.cells (pkA (h : Int) (nodK x h 0)) 25 (0, 0)) ∧ w'.heap[g11]? = some (.cells (pkA 0 zh16) 25 (0, 0))) (by kernel_rfl) ⟨HXwe.out, HPwe.out, HA7we.out, HA9we.out, HA11we.out⟩ (fun hHeld => ?_)
      refine wpAnyH_ready (rs := [0]) (by kernel_rfl) (by simp) (AllReadyH.cons (o := _) rfl (fun K hK => ?_) AllReadyH.nil)
      go_simp
      with_reducible refine (HAW.out).mono ?_
      rintro e u1 ⟨rfl, hb⟩
      have HEu1 : Hid (Below we.heap.size we u1) := (Below.refl _ _).drew.trans hb
      clear hb
      have HXu1 : Hid (u1.heap[w.heap.size]? = some (.cells (hvA x) 23 (0, 0))) := (HEu1.out.block _ (by omega)).trans HXwe.out
      have HPu1 : Hid (u1.heap[w.heap.size + 1]? = some (.cells (pkA ph pr) 25 (0, 0))) := (HEu1.out.block _ (by omega)).trans HPwe.out
      have HA7u1 : Hid (u1.heap[g7]? = some (.cells (pkA (h : Int) (nodK x h 0)) 25 (0, 0))) := (HEu1.out.block _ (by omega)).trans HA7we.out
      have HA9u1 : Hid (u1.heap[g9]? = some (.cells (pkA (h : Int) (nodK x h 0)) 25 (0, 0))) := (HEu1.out.block _ (by omega)).trans HA9we.out
      have HA11u1 : Hid (u1.heap[g11]? = some (.cells (pkA 0 zh16) 25 (0, 0))) := (HEu1.out.block _ (by omega)).trans HA11we.out
      have HBu1 : Hid (Below w.heap.size w u1) := HBwe.out.trans (HEu1.out.mono (by omega))
      have hsu1 : g11 < u1.heap.size ∧ g7 < u1.heap.size ∧ g9 < u1.heap.size ∧ w.heap.size + 2 ≤ u1.heap.size := by have := HEu1.out.size; omega
      go_wp2_with fail
      refine hK.out _ _ ⟨HXu1.out, HPu1.out, HA7u1.out, HA9u1.out, HA11u1.out⟩ (fun hHeld => ?_)
      clear hK K
      try simp only [Act.put, List.getElem_toArray, List.getElem_cons_succ, List.getElem_cons_zero, List.setIfInBounds_toArray, List.set_cons_zero, List.set_cons_succ]
      refine wpAnyH_take (i := 1) (oi := _) (v := ?v1n119) rfl (by kernel_rfl) (by kernel_rfl) (by kernel_rfl) (fun _ _ _ h => h) (Or.inl ⟨by rfl, ?hy1n119⟩) (by assumption) ?rest1n119
      case hy1n119 =>
        intro w' hSw
        go_simp
        try with_reducible rfl
      try simp only [Act.put, List.getElem_toArray, List.getElem_cons_succ, List.getElem_cons_zero, List.setIfInBounds_toArray, List.set_cons_zero, List.set_cons_succ]
      refine wpAnyH_take (i := 2) (oi := _) (v := ?v2n120) rfl (by kernel_rfl) (by kernel_rfl) (by kernel_rfl) (fun _ _ _ h => h) (Or.inl ⟨by rfl, ?hy2n120⟩) (by assumption) ?rest2n120
      case hy2n120 =>
        intro w' hSw
        go_simp
        try with_reducible rfl
      try simp only [Act.put, List.getElem_toArray, List.getElem_cons_succ, List.getElem_cons_zero, List.setIfInBounds_toArray, List.set_cons_zero, List.set_cons_succ]
      refine wpAnyH_take (i := 3) (oi := _) (v := ?v3n121) rfl (by kernel_rfl) (by kernel_rfl) (by kernel_rfl) (fun _ _ _ h => h) (Or.inl ⟨by rfl, ?hy3n121⟩) (by assumption) ?rest3n121
      case hy3n121 =>
        intro w' hSw
        go_simp
        try with_reducible rfl
      try simp only [Act.put, List.getElem_toArray, List.getElem_cons_succ, List.getElem_cons_zero, List.setIfInBounds_toArray, List.set_cons_zero, List.set_cons_succ]
      refine wpAnyH_take (i := 4) (oi := _) (v := ?v4n122) rfl (by kernel_rfl) (by kernel_rfl) (by kernel_rfl) (fun _ _ _ h => h) (Or.inl ⟨by rfl, ?hy4n122⟩) (by assumption) ?rest4n122
      case hy4n122 =>
        intro w' hSw
        go_simp
        try with_reducible rfl
      try simp only [Act.put, List.getElem_toArray, List.getElem_cons_succ, List.getElem_cons_zero, List.setIfInBounds_toArray, List.set_cons_zero, List.set_cons_succ]
      refine wpAnyH_take (i := 5) (oi := _) (v := ?v5n123) rfl (by kernel_rfl) (by kernel_rfl) (by kernel_rfl) (fun _ _ _ h => h) (Or.inl ⟨by rfl, ?hy5n123⟩) (by assumption) ?rest5n123
      case hy5n123 =>
        intro w' hSw
        go_simp
        try with_reducible rfl
      try simp only [Act.put, List.getElem_toArray, List.getElem_cons_succ, List.getElem_cons_zero, List.setIfInBounds_toArray, List.set_cons_zero, List.set_cons_succ]
      refine wpAnyH_take (i := 6) (oi := _) (v := ?v6n124) rfl (by kernel_rfl) (by kernel_rfl) (by kernel_rfl) (fun _ _ _ h => h) (Or.inl ⟨by rfl, ?hy6n124⟩) (by assumption) ?rest6n124
      case hy6n124 =>
        intro w' hSw
        go_simp
        try with_reducible rfl
      try simp only [Act.put, List.getElem_toArray, List.getElem_cons_succ, List.getElem_cons_zero, List.setIfInBounds_toArray, List.set_cons_zero, List.set_cons_succ]
      refine' wpAnyH_take (i := 7) (oi := _) (v := _) rfl (by kernel_rfl) (by kernel_rfl) (by kernel_rfl) (fun _ _ _ h => h) (yieldsIf_load_mid (by rfl) _ _ rfl _ _ rfl _ _ ?hS7n125 Tryd.underlying25 rfl (info_pkL HNK.out)) (by assumption) ?rest7n125
      case hS7n125 =>
        intro w' hSw
        exact row_rngK hSw.2.2.1
      try simp only [Act.put, List.getElem_toArray, List.getElem_cons_succ, List.getElem_cons_zero, List.setIfInBounds_toArray, List.set_cons_zero, List.set_cons_succ]
      refine' wpAnyH_take (i := 8) (oi := _) (v := _) rfl (by kernel_rfl) (by kernel_rfl) (by kernel_rfl) (fun _ _ _ h => h) (yieldsIf_load_mid (by rfl) _ _ rfl _ _ rfl _ _ ?hS8n126 Tryd.underlying25 rfl (info_pkL HNK.out)) (by assumption) ?rest8n126
      case hS8n126 =>
        intro w' hSw
        exact row_rngK hSw.2.2.2.1
      try simp only [Act.put, List.getElem_toArray, List.getElem_cons_succ, List.getElem_cons_zero, List.setIfInBounds_toArray, List.set_cons_zero, List.set_cons_succ]
      refine wpAnyH_take (i := 9) (oi := _) (v := ?v9n127) rfl (by kernel_rfl) (by kernel_rfl) (by kernel_rfl) (fun _ _ _ h => h) (Or.inl ⟨by rfl, ?hy9n127⟩) (by assumption) ?rest9n127
      case hy9n127 =>
        intro w' hSw
        refine exec_eqK (x := .tmp 47) (y := .tmp 48) (by kernel_rfl) (eqPk h (nodK x h 0) HNK.out w') ?_ ?_ ?_ <;> rfl
      try simp only [Act.put, List.getElem_toArray, List.getElem_cons_succ, List.getElem_cons_zero, List.setIfInBounds_toArray, List.set_cons_zero, List.set_cons_succ]
      refine wpAnyH_take (i := 10) (oi := _) (v := ?v10n128) rfl (by kernel_rfl) (by kernel_rfl) (by kernel_rfl) (fun _ _ _ h => h) (Or.inl ⟨by rfl, ?hy10n128⟩) (by assumption) ?rest10n128
      case hy10n128 =>
        intro w' hSw
        go_simp
        try with_reducible rfl
      try simp only [Act.put, List.getElem_toArray, List.getElem_cons_succ, List.getElem_cons_zero, List.setIfInBounds_toArray, List.set_cons_zero, List.set_cons_succ]
      refine wpAnyH_take (i := 11) (oi := _) (v := ?v11n129) rfl (by kernel_rfl) (by kernel_rfl) (by kernel_rfl) (fun _ _ _ h => h) (Or.inl ⟨by rfl, ?hy11n129⟩) (by assumption) ?rest11n129
      case hy11n129 =>
        intro w' hSw
        go_simp
        try with_reducible rfl
      try simp only [Act.put, List.getElem_toArray, List.getElem_cons_succ, List.getElem_cons_zero, List.setIfInBounds_toArray, List.set_cons_zero, List.set_cons_succ]
      refine wpAnyH_take (i := 12) (oi := _) (v := ?v12n130) rfl (by kernel_rfl) (by kernel_rfl) (by kernel_rfl) (fun _ _ _ h => h) (Or.inl ⟨by rfl, ?hy12n130⟩) (by assumption) ?rest12n130
      case hy12n130 =>
        intro w' hSw
        go_simp
        try with_reducible rfl
      try simp only [Act.put, List.getElem_toArray, List.getElem_cons_succ, List.getElem_cons_zero, List.setIfInBounds_toArray, List.set_cons_zero, List.set_cons_succ]
      refine wpAnyH_take (i := 13) (oi := _) (v := ?v13n131) rfl (by kernel_rfl) (by kernel_rfl) (by kernel_rfl) (fun _ _ _ h => h) (Or.inl ⟨by rfl, ?hy13n131⟩) (by assumption) ?rest13n131
      case hy13n131 =>
        intro w' hSw
        go_simp
        try with_reducible rfl
      try simp only [Act.put, List.getElem_toArray, List.getElem_cons_succ, List.getElem_cons_zero, List.setIfInBounds_toArray, List.set_cons_zero, List.set_cons_succ]
      refine wpAnyH_take (i := 14) (oi := _) (v := ?v14n132) rfl (by kernel_rfl) (by kernel_rfl) (by kernel_rfl) (fun _ _ _ h => h) (Or.inl ⟨by rfl, ?hy14n132⟩) (by assumption) ?rest14n132
      case hy14n132 =>
        intro w' hSw
        go_simp
        try with_reducible rfl
      try simp only [Act.put, List.getElem_toArray, List.getElem_cons_succ, List.getElem_cons_zero, List.setIfInBounds_toArray, List.set_cons_zero, List.set_cons_succ]
      refine wpAnyH_take (i := 15) (oi := _) (v := ?v15n133) rfl (by kernel_rfl) (by kernel_rfl) (by kernel_rfl) (fun _ _ _ h => h) (Or.inl ⟨by rfl, ?hy15n133⟩) (by assumption) ?rest15n133
      case hy15n133 =>
        intro w' hSw
        go_simp
        try with_reducible rfl
      try simp only [Act.put, List.getElem_toArray, List.getElem_cons_succ, List.getElem_cons_zero, List.setIfInBounds_toArray, List.set_cons_zero, List.set_cons_succ]
      refine' wpAnyH_take (i := 16) (oi := _) (v := _) rfl (by kernel_rfl) (by kernel_rfl) (by kernel_rfl) (fun _ _ _ h => h) (yieldsIf_load_mid (by rfl) _ _ rfl _ _ rfl _ _ ?hS16n134 Tryd.underlying25 rfl (info_pkL zh16_H16)) (by assumption) ?rest16n134
      case hS16n134 =>
        intro w' hSw
        exact row_rngK hSw.2.2.2.2
      try simp only [Act.put, List.getElem_toArray, List.getElem_cons_succ, List.getElem_cons_zero, List.setIfInBounds_toArray, List.set_cons_zero, List.set_cons_succ]
      refine wpAnyH_take (i := 17) (oi := _) (v := ?v17n135) rfl (by kernel_rfl) (by kernel_rfl) (by kernel_rfl) (fun _ _ _ h => h) (Or.inl ⟨by rfl, ?hy17n135⟩) (by assumption) ?rest17n135
      case hy17n135 =>
        intro w' hSw
        go_simp
        try with_reducible rfl
      try simp only [Act.put, List.getElem_toArray, List.getElem_cons_succ, List.getElem_cons_zero, List.setIfInBounds_toArray, List.set_cons_zero, List.set_cons_succ]
      refine wpAnyH_take (i := 18) (oi := _) (v := ?v18n136) rfl (by kernel_rfl) (by kernel_rfl) (by kernel_rfl) (fun _ _ _ h => h) (Or.inl ⟨by rfl, ?hy18n136⟩) (by assumption) ?rest18n136
      case hy18n136 =>
        intro w' hSw
        refine exec_eqK (x := .tmp 56) (y := .tmp 57) (by kernel_rfl) (eqPk 0 zh16 zh16_H16 w') ?_ ?_ ?_ <;> rfl
      try simp only [Act.put, List.getElem_toArray, List.getElem_cons_succ, List.getElem_cons_zero, List.setIfInBounds_toArray, List.set_cons_zero, List.set_cons_succ]
      refine wpAnyH_take (i := 19) (oi := _) (v := ?v19n137) rfl (by kernel_rfl) (by kernel_rfl) (by kernel_rfl) (fun _ _ _ h => h) (Or.inl ⟨by rfl, ?hy19n137⟩) (by assumption) ?rest19n137
      case hy19n137 =>
        intro w' hSw
        go_simp
        try with_reducible rfl
      try simp only [Act.put, List.getElem_toArray, List.getElem_cons_succ, List.getElem_cons_zero, List.setIfInBounds_toArray, List.set_cons_zero, List.set_cons_succ]
      refine wpAnyH_take (i := 20) (oi := _) (v := ?v20n138) rfl (by kernel_rfl) (by kernel_rfl) (by kernel_rfl) (fun _ _ _ h => h) (Or.inl ⟨by rfl, ?hy20n138⟩) (by assumption) ?rest20n138
      case hy20n138 =>
        intro w' hSw
        go_simp
        try with_reducible rfl
      try simp only [Act.put, List.getElem_toArray, List.getElem_cons_succ, List.getElem_cons_zero, List.setIfInBounds_toArray, List.set_cons_zero, List.set_cons_succ]
      refine' wpAnyH_take (i := 21) (oi := _) (v := _) rfl (by kernel_rfl) (by kernel_rfl) (by kernel_rfl) (fun _ _ _ h => h) (yieldsIf_load_mid (by rfl) _ _ rfl _ _ rfl _ _ ?hS21n139 Tryd.underlying25 rfl (info_pkL HP.out)) (by assumption) ?rest21n139
      case hS21n139 =>
        intro w' hSw
        exact row_rngK hSw.2.1
      try simp only [Act.put, List.getElem_toArray, List.getElem_cons_succ, List.getElem_cons_zero, List.setIfInBounds_toArray, List.set_cons_zero, List.set_cons_succ]
      refine' wpAnyH_take (i := 23) (oi := _) (v := _) rfl (by kernel_rfl) (by kernel_rfl) (by kernel_rfl) (fun _ _ _ h => h) (yieldsIf_load_mid (by rfl) _ _ rfl _ _ rfl _ _ ?hS23n140 Tryd.underlying25 rfl (info_pkL HP.out)) (by assumption) ?rest23n140
      case hS23n140 =>
        intro w' hSw
        exact row_rngK hSw.2.1
      try simp only [Act.put, List.getElem_toArray, List.getElem_cons_succ, List.getElem_cons_zero, List.setIfInBounds_toArray, List.set_cons_zero, List.set_cons_succ]
      refine wpAnyH_ready (rs := [22]) (by kernel_rfl) (by simp) (AllReadyH.cons (o := _) rfl (fun K hK => ?_) AllReadyH.nil)
      go_simp
      with_reducible refine ((HID.out u1 HBu1.out (by omega))).mono ?_
      rintro e u2 ⟨rfl, hb⟩
      have HEu2 : Hid (Below u1.heap.size u1 u2) := hb
      clear hb
      have HXu2 : Hid (u2.heap[w.heap.size]? = some (.cells (hvA x) 23 (0, 0))) := (HEu2.out.block _ (by omega)).trans HXu1.out
      have HPu2 : Hid (u2.heap[w.heap.size + 1]? = some (.cells (pkA ph pr) 25 (0, 0))) := (HEu2.out.block _ (by omega)).trans HPu1.out
      have HA7u2 : Hid (u2.heap[g7]? = some (.cells (pkA (h : Int) (nodK x h 0)) 25 (0, 0))) := (HEu2.out.block _ (by omega)).trans HA7u1.out
      have HA9u2 : Hid (u2.heap[g9]? = some (.cells (pkA (h : Int) (nodK x h 0)) 25 (0, 0))) := (HEu2.out.block _ (by omega)).trans HA9u1.out
      have HA11u2 : Hid (u2.heap[g11]? = some (.cells (pkA 0 zh16) 25 (0, 0))) := (HEu2.out.block _ (by omega)).trans HA11u1.out
      have HBu2 : Hid (Below w.heap.size w u2) := HBu1.out.trans (HEu2.out.mono (by omega))
      have hsu2 : g11 < u2.heap.size ∧ g7 < u2.heap.size ∧ g9 < u2.heap.size ∧ w.heap.size + 2 ≤ u2.heap.size := by have := HEu2.out.size; omega
      go_wp2_with fail
      refine hK.out _ _ ⟨HXu2.out, HPu2.out, HA7u2.out, HA9u2.out, HA11u2.out⟩ (fun hHeld => ?_)
      clear hK K
      try simp only [Act.put, List.getElem_toArray, List.getElem_cons_succ, List.getElem_cons_zero, List.setIfInBounds_toArray, List.set_cons_zero, List.set_cons_succ]
      refine wpAnyH_ready (rs := [24]) (by kernel_rfl) (by simp) (AllReadyH.cons (o := _) rfl (fun K hK => ?_) AllReadyH.nil)
      go_simp
      with_reducible refine ((HRID.out u2)).mono ?_
      rintro e u3 ⟨rfl, hb⟩
      have HEu3 : Hid (Below u2.heap.size u2 u3) := hb
      clear hb
      have HXu3 : Hid (u3.heap[w.heap.size]? = some (.cells (hvA x) 23 (0, 0))) := (HEu3.out.block _ (by omega)).trans HXu2.out
      have HPu3 : Hid (u3.heap[w.heap.size + 1]? = some (.cells (pkA ph pr) 25 (0, 0))) := (HEu3.out.block _ (by omega)).trans HPu2.out
      have HA7u3 : Hid (u3.heap[g7]? = some (.cells (pkA (h : Int) (nodK x h 0)) 25 (0, 0))) := (HEu3.out.block _ (by omega)).trans HA7u2.out
      have HA9u3 : Hid (u3.heap[g9]? = some (.cells (pkA (h : Int) (nodK x h 0)) 25 (0, 0))) := (HEu3.out.block _ (by omega)).trans HA9u2.out
      have HA11u3 : Hid (u3.heap[g11]? = some (.cells (pkA 0 zh16) 25 (0, 0))) := (HEu3.out.block _ (by omega)).trans HA11u2.out
      have HBu3 : Hid (Below w.heap.size w u3) := HBu2.out.trans (HEu3.out.mono (by omega))
      have hsu3 : g11 < u3.heap.size ∧ g7 < u3.heap.size ∧ g9 < u3.heap.size ∧ w.heap.size + 2 ≤ u3.heap.size := by have := HEu3.out.size; omega
      go_wp2_with fail
      refine hK.out _ _ ⟨HXu3.out, HPu3.out, HA7u3.out, HA9u3.out, HA11u3.out⟩ (fun hHeld => ?_)
      clear hK K
      try simp only [Act.put, List.getElem_toArray, List.getElem_cons_succ, List.getElem_cons_zero, List.setIfInBounds_toArray, List.set_cons_zero, List.set_cons_succ]
      refine wpAnyH_take (i := 25) (oi := _) (v := ?v25n141) rfl (by kernel_rfl) (by kernel_rfl) (by kernel_rfl) (fun _ _ _ h => h) (Or.inl ⟨by rfl, ?hy25n141⟩) (by assumption) ?rest25n141
      case hy25n141 =>
        intro w' hSw
        refine exec_eqK (x := .tmp 62) (y := .tmp 64) (by kernel_rfl) (eqDgK (idB ph pr) w') ?_ ?_ ?_ <;> rfl
      try simp only [Act.put, List.getElem_toArray, List.getElem_cons_succ, List.getElem_cons_zero, List.setIfInBounds_toArray, List.set_cons_zero, List.set_cons_succ]
      refine wpAnyH_take (i := 26) (oi := _) (v := ?v26n142) rfl (by kernel_rfl) (by kernel_rfl) (by kernel_rfl) (fun _ _ _ h => h) (Or.inl ⟨by rfl, ?hy26n142⟩) (by assumption) ?rest26n142
      case hy26n142 =>
        intro w' hSw
        go_simp
        try with_reducible rfl
      try simp only [Act.put, List.getElem_toArray, List.getElem_cons_succ, List.getElem_cons_zero, List.setIfInBounds_toArray, List.set_cons_zero, List.set_cons_succ]
      refine wpAnyH_take (i := 27) (oi := _) (v := ?v27n143) rfl (by kernel_rfl) (by kernel_rfl) (by kernel_rfl) (fun _ _ _ h => h) (Or.inl ⟨by rfl, ?hy27n143⟩) (by assumption) ?rest27n143
      case hy27n143 =>
        intro w' hSw
        go_simp
        try with_reducible rfl
      try simp only [Act.put, List.getElem_toArray, List.getElem_cons_succ, List.getElem_cons_zero, List.setIfInBounds_toArray, List.set_cons_zero, List.set_cons_succ]
      refine' wpAnyH_take (i := 28) (oi := _) (v := _) rfl (by kernel_rfl) (by kernel_rfl) (by kernel_rfl) (fun _ _ _ h => h) (yieldsIf_load_mid (by rfl) _ _ rfl _ _ rfl _ _ ?hS28n144 Tryd.underlying25 rfl (info_pkL HP.out)) (by assumption) ?rest28n144
      case hS28n144 =>
        intro w' hSw
        exact row_rngK hSw.2.1
      try simp only [Act.put, List.getElem_toArray, List.getElem_cons_succ, List.getElem_cons_zero, List.setIfInBounds_toArray, List.set_cons_zero, List.set_cons_succ]
      refine' wpAnyH_take (i := 30) (oi := _) (v := _) rfl (by kernel_rfl) (by kernel_rfl) (by kernel_rfl) (fun _ _ _ h => h) (yieldsIf_load_mid (by rfl) _ _ rfl _ _ rfl _ _ ?hS30n145 Tryd.underlying25 rfl (info_pkL HP.out)) (by assumption) ?rest30n145
      case hS30n145 =>
        intro w' hSw
        exact row_rngK hSw.2.1
      try simp only [Act.put, List.getElem_toArray, List.getElem_cons_succ, List.getElem_cons_zero, List.setIfInBounds_toArray, List.set_cons_zero, List.set_cons_succ]
      refine wpAnyH_ready (rs := [29]) (by kernel_rfl) (by simp) (AllReadyH.cons (o := _) rfl (fun K hK => ?_) AllReadyH.nil)
      go_simp
      with_reducible refine ((HVA.out u3)).mono ?_
      rintro e u4 ⟨rfl, hb⟩
      have HEu4 : Hid (Below u3.heap.size u3 u4) := hb
      clear hb
      have HXu4 : Hid (u4.heap[w.heap.size]? = some (.cells (hvA x) 23 (0, 0))) := (HEu4.out.block _ (by omega)).trans HXu3.out
      have HPu4 : Hid (u4.heap[w.heap.size + 1]? = some (.cells (pkA ph pr) 25 (0, 0))) := (HEu4.out.block _ (by omega)).trans HPu3.out
      have HA7u4 : Hid (u4.heap[g7]? = some (.cells (pkA (h : Int) (nodK x h 0)) 25 (0, 0))) := (HEu4.out.block _ (by omega)).trans HA7u3.out
      have HA9u4 : Hid (u4.heap[g9]? = some (.cells (pkA (h : Int) (nodK x h 0)) 25 (0, 0))) := (HEu4.out.block _ (by omega)).trans HA9u3.out
      have HA11u4 : Hid (u4.heap[g11]? = some (.cells (pkA 0 zh16) 25 (0, 0))) := (HEu4.out.block _ (by omega)).trans HA11u3.out
      have HBu4 : Hid (Below w.heap.size w u4) := HBu3.out.trans (HEu4.out.mono (by omega))
      have hsu4 : g11 < u4.heap.size ∧ g7 < u4.heap.size ∧ g9 < u4.heap.size ∧ w.heap.size + 2 ≤ u4.heap.size := by have := HEu4.out.size; omega
      go_wp2_with fail
      refine hK.out _ _ ⟨HXu4.out, HPu4.out, HA7u4.out, HA9u4.out, HA11u4.out⟩ (fun hHeld => ?_)
      clear hK K
      try simp only [Act.put, List.getElem_toArray, List.getElem_cons_succ, List.getElem_cons_zero, List.setIfInBounds_toArray, List.set_cons_zero, List.set_cons_succ]
      refine wpAnyH_ready (rs := [31]) (by kernel_rfl) (by simp) (AllReadyH.cons (o := _) rfl (fun K hK => ?_) AllReadyH.nil)
      go_simp
      with_reducible refine ((HRVA.out u4)).mono ?_
      rintro e u5 ⟨rfl, hb⟩
      have HEu5 : Hid (Below u4.heap.size u4 u5) := hb
      clear hb
      have HXu5 : Hid (u5.heap[w.heap.size]? = some (.cells (hvA x) 23 (0, 0))) := (HEu5.out.block _ (by omega)).trans HXu4.out
      have HPu5 : Hid (u5.heap[w.heap.size + 1]? = some (.cells (pkA ph pr) 25 (0, 0))) := (HEu5.out.block _ (by omega)).trans HPu4.out
      have HA7u5 : Hid (u5.heap[g7]? = some (.cells (pkA (h : Int) (nodK x h 0)) 25 (0, 0))) := (HEu5.out.block _ (by omega)).trans HA7u4.out
      have HA9u5 : Hid (u5.heap[g9]? = some (.cells (pkA (h : Int) (nodK x h 0)) 25 (0, 0))) := (HEu5.out.block _ (by omega)).trans HA9u4.out
      have HA11u5 : Hid (u5.heap[g11]? = some (.cells (pkA 0 zh16) 25 (0, 0))) := (HEu5.out.block _ (by omega)).trans HA11u4.out
      have HBu5 : Hid (Below w.heap.size w u5) := HBu4.out.trans (HEu5.out.mono (by omega))
      have hsu5 : g11 < u5.heap.size ∧ g7 < u5.heap.size ∧ g9 < u5.heap.size ∧ w.heap.size + 2 ≤ u5.heap.size := by have := HEu5.out.size; omega
      go_wp2_with fail
      refine hK.out _ _ ⟨HXu5.out, HPu5.out, HA7u5.out, HA9u5.out, HA11u5.out⟩ (fun hHeld => ?_)
      clear hK K
      try simp only [Act.put, List.getElem_toArray, List.getElem_cons_succ, List.getElem_cons_zero, List.setIfInBounds_toArray, List.set_cons_zero, List.set_cons_succ]
      refine wpAnyH_take (i := 32) (oi := _) (v := ?v32n146) rfl (by kernel_rfl) (by kernel_rfl) (by kernel_rfl) (fun _ _ _ h => h) (Or.inl ⟨by rfl, ?hy32n146⟩) (by assumption) ?rest32n146
      case hy32n146 =>
        intro w' hSw
        go_simp
        try with_reducible rfl
      try simp only [Act.put, List.getElem_toArray, List.getElem_cons_succ, List.getElem_cons_zero, List.setIfInBounds_toArray, List.set_cons_zero, List.set_cons_succ]
      refine wpAnyH_take (i := 33) (oi := _) (v := ?v33n147) rfl (by kernel_rfl) (by kernel_rfl) (by kernel_rfl) (fun _ _ _ h => h) (Or.inl ⟨by rfl, ?hy33n147⟩) (by assumption) ?rest33n147
      case hy33n147 =>
        intro w' hSw
        go_simp
        try with_reducible rfl
      try simp only [Act.put, List.getElem_toArray, List.getElem_cons_succ, List.getElem_cons_zero, List.setIfInBounds_toArray, List.set_cons_zero, List.set_cons_succ]
      refine wpAnyH_take (i := 34) (oi := _) (v := ?v34n148) rfl (by kernel_rfl) (by kernel_rfl) (by kernel_rfl) (fun _ _ _ h => h) (Or.inl ⟨by rfl, ?hy34n148⟩) (by assumption) ?rest34n148
      case hy34n148 =>
        intro w' hSw
        go_simp
        try with_reducible rfl
      try simp only [Act.put, List.getElem_toArray, List.getElem_cons_succ, List.getElem_cons_zero, List.setIfInBounds_toArray, List.set_cons_zero, List.set_cons_succ]
      refine wpAnyH_take (i := 35) (oi := _) (v := ?v35n149) rfl (by kernel_rfl) (by kernel_rfl) (by kernel_rfl) (fun _ _ _ h => h) (Or.inl ⟨by rfl, ?hy35n149⟩) (by assumption) ?rest35n149
      case hy35n149 =>
        intro w' hSw
        go_simp
        try with_reducible rfl
      try simp only [Act.put, List.getElem_toArray, List.getElem_cons_succ, List.getElem_cons_zero, List.setIfInBounds_toArray, List.set_cons_zero, List.set_cons_succ]
      refine wpAnyH_take (i := 36) (oi := _) (v := ?v36n150) rfl (by kernel_rfl) (by kernel_rfl) (by kernel_rfl) (fun _ _ _ h => h) (Or.inl ⟨by rfl, ?hy36n150⟩) (by assumption) ?rest36n150
      case hy36n150 =>
        intro w' hSw
        go_simp
        try with_reducible rfl
      try simp only [Act.put, List.getElem_toArray, List.getElem_cons_succ, List.getElem_cons_zero, List.setIfInBounds_toArray, List.set_cons_zero, List.set_cons_succ]
      refine wpAnyH_take (i := 37) (oi := _) (v := ?v37n151) rfl (by kernel_rfl) (by kernel_rfl) (by kernel_rfl) (fun _ _ _ h => h) (Or.inl ⟨by rfl, ?hy37n151⟩) (by assumption) ?rest37n151
      case hy37n151 =>
        intro w' hSw
        have c1 := pk_h hSw.2.1
        go_simp
        try with_reducible rfl
      try simp only [Act.put, List.getElem_toArray, List.getElem_cons_succ, List.getElem_cons_zero, List.setIfInBounds_toArray, List.set_cons_zero, List.set_cons_succ]
      refine wpAnyH_take (i := 38) (oi := _) (v := ?v38n152) rfl (by kernel_rfl) (by kernel_rfl) (by kernel_rfl) (fun _ _ _ h => h) (Or.inl ⟨by rfl, ?hy38n152⟩) (by assumption) ?rest38n152
      case hy38n152 =>
        intro w' hSw
        go_simp
        try with_reducible rfl
      try simp only [Act.put, List.getElem_toArray, List.getElem_cons_succ, List.getElem_cons_zero, List.setIfInBounds_toArray, List.set_cons_zero, List.set_cons_succ]
      refine' wpAnyH_take (i := 39) (oi := _) (v := _) rfl (by kernel_rfl) (by kernel_rfl) (by kernel_rfl) (fun _ _ _ h => h) (yieldsIf_load_mid (by rfl) _ _ rfl _ _ rfl _ _ ?hS39n153 Tryd.underlying23 rfl HIP.out) (by assumption) ?rest39n153
      case hS39n153 =>
        intro w' hSw
        exact pk_r hSw.2.1
      try simp only [Act.put, List.getElem_toArray, List.getElem_cons_succ, List.getElem_cons_zero, List.setIfInBounds_toArray, List.set_cons_zero, List.set_cons_succ]
      refine' wpAnyH_take (i := 40) (oi := _) (v := _) rfl (by kernel_rfl) (by kernel_rfl) (by kernel_rfl) (fun _ _ _ h => h) (yieldsIf_load_mid (by rfl) _ _ rfl _ _ rfl _ _ ?hS40n154 Tryd.underlying23 rfl HIX.out) (by assumption) ?rest40n154
      case hS40n154 =>
        intro w' hSw
        exact row_rngK hSw.1
      try simp only [Act.put, List.getElem_toArray, List.getElem_cons_succ, List.getElem_cons_zero, List.setIfInBounds_toArray, List.set_cons_zero, List.set_cons_succ]
      refine wpAnyH_take (i := 42) (oi := _) (v := ?v42n155) rfl (by kernel_rfl) (by kernel_rfl) (by kernel_rfl) (fun _ _ _ h => h) (Or.inl ⟨by rfl, ?hy42n155⟩) (by assumption) ?rest42n155
      case hy42n155 =>
        intro w' hSw
        go_simp
        try with_reducible rfl
      try simp only [Act.put, List.getElem_toArray, List.getElem_cons_succ, List.getElem_cons_zero, List.setIfInBounds_toArray, List.set_cons_zero, List.set_cons_succ]
      refine wpAnyH_take (i := 43) (oi := _) (v := ?v43n156) rfl (by kernel_rfl) (by kernel_rfl) (by kernel_rfl) (fun _ _ _ h => h) (Or.inl ⟨by rfl, ?hy43n156⟩) (by assumption) ?rest43n156
      case hy43n156 =>
        intro w' hSw
        go_simp
        try with_reducible rfl
      try simp only [Act.put, List.getElem_toArray, List.getElem_cons_succ, List.getElem_cons_zero, List.setIfInBounds_toArray, List.set_cons_zero, List.set_cons_succ]
      refine wpAnyH_take (i := 44) (oi := _) (v := ?v44n157) rfl (by kernel_rfl) (by kernel_rfl) (by kernel_rfl) (fun _ _ _ h => h) (Or.inl ⟨by rfl, ?hy44n157⟩) (by assumption) ?rest44n157
      case hy44n157 =>
        intro w' hSw
        have c1 := pk_h hSw.2.1
        go_simp
        try with_reducible rfl
      try simp only [Act.put, List.getElem_toArray, List.getElem_cons_succ, List.getElem_cons_zero, List.setIfInBounds_toArray, List.set_cons_zero, List.set_cons_succ]
      refine wpAnyH_take (i := 45) (oi := _) (v := ?v45n158) rfl (by kernel_rfl) (by kernel_rfl) (by kernel_rfl) (fun _ _ _ h => h) (Or.inl ⟨by rfl, ?hy45n158⟩) (by assumption) ?rest45n158
      case hy45n158 =>
        intro w' hSw
        go_simp
        try with_reducible rfl
      try simp only [Act.put, List.getElem_toArray, List.getElem_cons_succ, List.getElem_cons_zero, List.setIfInBounds_toArray, List.set_cons_zero, List.set_cons_succ]
      refine' wpAnyH_take (i := 46) (oi := _) (v := _) rfl (by kernel_rfl) (by kernel_rfl) (by kernel_rfl) (fun _ _ _ h => h) (yieldsIf_load_mid (by rfl) _ _ rfl _ _ rfl _ _ ?hS46n159 Tryd.underlying23 rfl HIP.out) (by assumption) ?rest46n159
      case hS46n159 =>
        intro w' hSw
        exact pk_r hSw.2.1
      try simp only [Act.put, List.getElem_toArray, List.getElem_cons_succ, List.getElem_cons_zero, List.setIfInBounds_toArray, List.set_cons_zero, List.set_cons_succ]
      refine' wpAnyH_take (i := 47) (oi := _) (v := _) rfl (by kernel_rfl) (by kernel_rfl) (by kernel_rfl) (fun _ _ _ h => h) (yieldsIf_load_mid (by rfl) _ _ rfl _ _ rfl _ _ ?hS47n160 Tryd.underlying23 rfl HIX.out) (by assumption) ?rest47n160
      case hS47n160 =>
        intro w' hSw
        exact row_rngK hSw.1
      try simp only [Act.put, List.getElem_toArray, List.getElem_cons_succ, List.getElem_cons_zero, List.setIfInBounds_toArray, List.set_cons_zero, List.set_cons_succ]
      refine wpAnyH_ready (rs := [41]) (by kernel_rfl) (by simp) (AllReadyH.cons (o := _) rfl (fun K hK => ?_) AllReadyH.nil)
      go_simp
      with_reducible refine ((HJ.out u5 HBu5.out (by omega))).mono ?_
      rintro e u6 ⟨rfl, hb⟩
      have HEu6 : Hid (Below u5.heap.size u5 u6) := hb
      clear hb
      have HXu6 : Hid (u6.heap[w.heap.size]? = some (.cells (hvA x) 23 (0, 0))) := (HEu6.out.block _ (by omega)).trans HXu5.out
      have HPu6 : Hid (u6.heap[w.heap.size + 1]? = some (.cells (pkA ph pr) 25 (0, 0))) := (HEu6.out.block _ (by omega)).trans HPu5.out
      have HA7u6 : Hid (u6.heap[g7]? = some (.cells (pkA (h : Int) (nodK x h 0)) 25 (0, 0))) := (HEu6.out.block _ (by omega)).trans HA7u5.out
      have HA9u6 : Hid (u6.heap[g9]? = some (.cells (pkA (h : Int) (nodK x h 0)) 25 (0, 0))) := (HEu6.out.block _ (by omega)).trans HA9u5.out
      have HA11u6 : Hid (u6.heap[g11]? = some (.cells (pkA 0 zh16) 25 (0, 0))) := (HEu6.out.block _ (by omega)).trans HA11u5.out
      have HBu6 : Hid (Below w.heap.size w u6) := HBu5.out.trans (HEu6.out.mono (by omega))
      have hsu6 : g11 < u6.heap.size ∧ g7 < u6.heap.size ∧ g9 < u6.heap.size ∧ w.heap.size + 2 ≤ u6.heap.size := by have := HEu6.out.size; omega
      go_wp2_with fail
      refine hK.out _ _ ⟨HXu6.out, HPu6.out, HA7u6.out, HA9u6.out, HA11u6.out⟩ (fun hHeld => ?_)
      clear hK K
      try simp only [Act.put, List.getElem_toArray, List.getElem_cons_succ, List.getElem_cons_zero, List.setIfInBounds_toArray, List.set_cons_zero, List.set_cons_succ]
      refine wpAnyH_ready (rs := [48]) (by kernel_rfl) (by simp) (AllReadyH.cons (o := _) rfl (fun K hK => ?_) AllReadyH.nil)
      go_simp
      with_reducible refine ((HRJ.out u6)).mono ?_
      rintro e u7 ⟨rfl, hb⟩
      have HEu7 : Hid (Below u6.heap.size u6 u7) := hb
      clear hb
      have HXu7 : Hid (u7.heap[w.heap.size]? = some (.cells (hvA x) 23 (0, 0))) := (HEu7.out.block _ (by omega)).trans HXu6.out
      have HPu7 : Hid (u7.heap[w.heap.size + 1]? = some (.cells (pkA ph pr) 25 (0, 0))) := (HEu7.out.block _ (by omega)).trans HPu6.out
      have HA7u7 : Hid (u7.heap[g7]? = some (.cells (pkA (h : Int) (nodK x h 0)) 25 (0, 0))) := (HEu7.out.block _ (by omega)).trans HA7u6.out
      have HA9u7 : Hid (u7.heap[g9]? = some (.cells (pkA (h : Int) (nodK x h 0)) 25 (0, 0))) := (HEu7.out.block _ (by omega)).trans HA9u6.out
      have HA11u7 : Hid (u7.heap[g11]? = some (.cells (pkA 0 zh16) 25 (0, 0))) := (HEu7.out.block _ (by omega)).trans HA11u6.out
      have HBu7 : Hid (Below w.heap.size w u7) := HBu6.out.trans (HEu7.out.mono (by omega))
      have hsu7 : g11 < u7.heap.size ∧ g7 < u7.heap.size ∧ g9 < u7.heap.size ∧ w.heap.size + 2 ≤ u7.heap.size := by have := HEu7.out.size; omega
      go_wp2_with fail
      refine hK.out _ _ ⟨HXu7.out, HPu7.out, HA7u7.out, HA9u7.out, HA11u7.out⟩ (fun hHeld => ?_)
      clear hK K
      try simp only [Act.put, List.getElem_toArray, List.getElem_cons_succ, List.getElem_cons_zero, List.setIfInBounds_toArray, List.set_cons_zero, List.set_cons_succ]
      refine wpAnyH_take (i := 49) (oi := _) (v := ?v49n161) rfl (by kernel_rfl) (by kernel_rfl) (by kernel_rfl) (fun _ _ _ h => h) (Or.inl ⟨by rfl, ?hy49n161⟩) (by assumption) ?rest49n161
      case hy49n161 =>
        intro w' hSw
        refine exec_eqK (x := .tmp 81) (y := .tmp 88) (by kernel_rfl) (eqIn_halfJ (joinB_H16 hg ph pr x) w') ?_ ?_ ?_ <;> rfl
      try simp only [Act.put, List.getElem_toArray, List.getElem_cons_succ, List.getElem_cons_zero, List.setIfInBounds_toArray, List.set_cons_zero, List.set_cons_succ]
      refine wpAnyH_take (i := 50) (oi := _) (v := ?v50n162) rfl (by kernel_rfl) (by kernel_rfl) (by kernel_rfl) (fun _ _ _ h => h) (Or.inl ⟨by rfl, ?hy50n162⟩) (by assumption) ?rest50n162
      case hy50n162 =>
        intro w' hSw
        go_simp
        try with_reducible rfl
      try simp only [Act.put, List.getElem_toArray, List.getElem_cons_succ, List.getElem_cons_zero, List.setIfInBounds_toArray, List.set_cons_zero, List.set_cons_succ]
      refine wpAnyH_take (i := 51) (oi := _) (v := ?v51n163) rfl (by kernel_rfl) (by kernel_rfl) (by kernel_rfl) (fun _ _ _ h => h) (Or.inl ⟨by rfl, ?hy51n163⟩) (by assumption) ?rest51n163
      case hy51n163 =>
        intro w' hSw
        go_simp
        try with_reducible rfl
      try simp only [Act.put, List.getElem_toArray, List.getElem_cons_succ, List.getElem_cons_zero, List.setIfInBounds_toArray, List.set_cons_zero, List.set_cons_succ]
      refine wpAnyH_done (by kernel_rfl) ?_ _
      go_wp2_with fail
      go_ret
      exact ⟨rfl, HBu7.out⟩

end Go.Proofs.YthbcpcddanknhaaDoor
