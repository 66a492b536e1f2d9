/-
  The walk of KeytreeWords (conditions: the arguments read as a signature, strings and a half; the tables of constants and of powers of ten read as they are laid).
-/
import Derived.Test.YtbfgkbcpkldofaaDoorG3
import Derived.Lib.ItoaLen
namespace Go.Proofs.YtbfgkbcpkldofaaDoor
open Go.RowKit Go.Proofs.YtbfgkbcpkldofaaDoor.One

def dg7 : List Int := 7 :: List.replicate 31 0
theorem dg7_ok : D32 dg7 := ⟨rfl, fun y hy => by
  simp only [dg7, List.mem_cons, List.mem_replicate] at hy
  omega⟩
theorem buildSg2 (x : List Int) (h : Int) (hx : H16 x) (w : World) :
    (Instr.build 29 #[(0, .agg (hvA x)), (1, .int .i64 h)]).run Tryd.prog w = .ok (.agg (sgA x h 0)) w := by
  refine run_build w _ _ _ ?_
  rw [built_fill zeroSg Tryd.underlying29 (places := [(0, 16), (16, 1), (17, 1)]) (by kernel_rfl)]
  show Instr.fill _ ([] ++ (List.replicate 16 (Value.int .u8 0) ++ [Value.int .i64 0, Value.int .i64 0])).toArray [(0, .agg (x.map (Value.int .u8)).toArray), (1, .int .i64 h)] = _
  rw [fill_put (x.map (Value.int .u8)) [] (List.replicate 16 (Value.int .u8 0)) [Value.int .i64 0, Value.int .i64 0] (off := 0) (sz := 16) rfl rfl (by rw [List.length_map, hx.1]) rfl (by simp), List.nil_append]
  rw [show x.map (Value.int .u8) ++ [Value.int .i64 0, Value.int .i64 0] = x.map (Value.int .u8) ++ ([Value.int .i64 0] ++ [Value.int .i64 0]) by simp]
  rw [fill_put [Value.int .i64 h] (x.map (Value.int .u8)) [Value.int .i64 0] [Value.int .i64 0] (off := 16) (sz := 1) rfl rfl rfl (by rw [List.length_map, hx.1]) rfl]
  simp [Instr.fill, sgA, sgL]
theorem OwnW.cap {w : World} {base : Nat} {sp : Option Addr} {n cap : Nat} {l : List ByteArray} (h : OwnW w base (.slice sp n cap) l) (hn : l.length = n) (h0 : 0 < n) : n ≤ cap := by
  obtain ⟨_, ⟨e, e0⟩ | ⟨g, cap', cur, e, _, _, hc, _⟩⟩ := h
  · omega
  · injection e with e1 e2 e3; omega
theorem rdC_le (l : List ByteArray) : (rdC l).length ≤ 1000 := by unfold rdC; split <;> simp [List.length_take]; omega
theorem rdP_le {l : List ByteArray} (h : l.length ≤ 1000) : (rdP l).length ≤ 1000 := by unfold rdP; split <;> simp; omega
theorem wordsB_len {a : Int} {cl pl : List (List Int)} {n m : Nat} (h1 : cl.length = n) (h2 : pl.length = m) : (wordsB a cl pl).length = 1 + n + m := by unfold wordsB; simp; omega
theorem numS_size (a : Int) (h0 : -9223372036854775808 ≤ a) (h1 : a ≤ 9223372036854775807) (cl pl : List (List Int)) : (hdB (wordsB a cl pl)).size ≤ 9223372036854775807 := by
  have h := Lib.itoa_length_le a h0 h1
  have e : (hdB (wordsB a cl pl)).size = (Lib.itoa a).length := by
    show (ByteArray.mk (Lib.itoa a).toArray).size = _
    simp [ByteArray.size]
  omega
/-- a signature and a half in boxes, and what was made -/
structure WdD (w : World) (a : Int) (c p : Value) (gm : Nat) (spc spp : Option Addr) (capc capp : Nat) (cl pl : List (List Int)) (v : World) : Prop where
  s : v.heap[w.heap.size]? = some (.cells (siA a c p) 37 (0, 0))
  b : Below w.heap.size w v
  g : v.heap[gm]? = some (.cells (siA 0 (.slice spc 68 capc) (.slice spp 1 capp)) 37 (0, 0))
  oc : OwnHv v 0 (.slice spc 68 capc) cl
  op : OwnHv v 0 (.slice spp 1 capp) pl
  i : w.heap.size < gm ∧ gm < v.heap.size
theorem WdD.below {w : World} {a : Int} {c p : Value} {gm : Nat} {spc spp : Option Addr} {capc capp : Nat} {cl pl : List (List Int)} {v v' : World} (d : WdD w a c p gm spc spp capc capp cl pl v) (hb : Below v.heap.size v v') : WdD w a c p gm spc spp capc capp cl pl v' := by
  have h1 := d.i; have h2 := hb.size
  exact ⟨(hb.block _ (by omega)).trans d.s, d.b.trans (hb.mono (by omega)), (hb.block _ (by omega)).trans d.g, d.oc.below hb, d.op.below hb, by omega⟩
/-- two boxes -/
structure WdBox (w : World) (a : Int) (c p : Value) (x : List Int) (w0 : World) : Prop where
  s : w0.heap[w.heap.size]? = some (.cells (siA a c p) 37 (0, 0))
  x : w0.heap[w.heap.size + 1]? = some (.cells (hvA x) 23 (0, 0))
  b : Below w.heap.size w w0
  k : w.heap.size + 2 ≤ w0.heap.size
theorem WdBox.new (w : World) (a : Int) (c p : Value) (x : List Int) : WdBox w a c p x ((w.alloc (.cells (siA a c p) 37)).alloc (.cells (hvA x) 23)) :=
  ⟨(heap_alloc_old _ _ (by simp)).trans (heap_alloc_new w _), by have h := heap_alloc_new (w.alloc (.cells (siA a c p) 37)) (.cells (hvA x) 23); rw [World.size_alloc] at h; exact h, ((Below.refl _ _).alloc (Nat.le_refl _) _).alloc (by simp) _, by simp⟩
theorem OwnHv.at68 {w : World} {base : Nat} {sp : Option Addr} {n cap : Nat} {l : List (List Int)} (h : OwnHv w base (.slice sp n cap) l) (h0 : 0 < n) : ∃ g cur, sp = some ⟨g, 0, none⟩ ∧ base ≤ g ∧ w.heap[g]? = some (.cells cur 23 (0, 0)) ∧ n ≤ cap := by
  obtain ⟨_, ⟨e, _⟩ | ⟨g, cap', cur, e, hb, hg, hc, _⟩⟩ := h.1
  · injection e with e1 e2 e3; omega
  · injection e with e1 e2 e3
    subst e3
    exact ⟨g, cur, e1, hb, hg, by omega⟩
set_option maxRecDepth 100000 in
set_option maxHeartbeats 2000000 in
theorem keytreeWords_any (a : Int) (sp1 : Option Addr) (n c1 : Nat) (cl : List (List Int)) (sp2 : Option Addr) (m c2 : Nat) (pl : List (List Int)) (wsp : Option Addr) (wn wcap : Nat) (wl : List ByteArray) (x : List Int) (w : World) (h0 : -9223372036854775808 ≤ a) (h1 : a ≤ 9223372036854775807) (hc : HvsIn w w.heap.size sp1 n c1 cl) (hp : HvsIn w w.heap.size sp2 m c2 pl) (hn1 : sp1 = none → c1 = 0) (hn2 : sp2 = none → c2 = 0)
    (hw : StrsIn w w.heap.size wsp wn wl) (hwcap : wn ≤ wcap) (hwmx : (hdB wl).size ≤ 9223372036854775807) (hx : H16 x) (hk : KayIn w) (hk0 : 1 < w.heap.size) (ht : P10In w) (ht0 : 0 < w.heap.size) :
    Calls Tryd.prog 4 #[.agg (siA a (.slice sp1 n c1) (.slice sp2 m c2)), .slice wsp wn wcap, .agg (hvA x)] w fun e w' => e = .returned (.bool true) ∧ Below w.heap.size w w' := by
  have HC := Lib.hid hc; have HP := Lib.hid hp; have HN1 := Lib.hid hn1; have HN2 := Lib.hid hn2; have HW := Lib.hid hw; have HX := Lib.hid hx; have HK := Lib.hid hk; have HT10 := Lib.hid ht
  clear hc hp hn1 hn2 hw hx hk ht
  have HT := Lib.hid (WdBox.new w a (.slice sp1 n c1) (.slice sp2 m c2) x)
  go_enter Tryd.func4, Tryd.ntmps4
  go_upto_region 1 with (fail)
  generalize hw0 : World.alloc (World.alloc w _) _ = v0
  have HT0 : Hid (WdBox w a (.slice sp1 n c1) (.slice sp2 m c2) x v0) := by rw [← hw0]; exact HT.out
  clear hw0 HT
  have k3 := si_c HT0.out.s
  have k4 := si_p HT0.out.s
  by_cases g1 : (n : Int) > 100
  · have q1 : decide ((n : Int) > 100) = true := by simpa using g1
    go_wp2_with fail
    go_ret
    exact ⟨rfl, HT0.out.b⟩
  · have q1 : decide ((n : Int) > 100) = false := by simpa using g1
    by_cases g2 : (m : Int) > 20
    · have q2 : decide ((m : Int) > 20) = true := by simpa using g2
      go_wp2_with fail
      go_ret
      exact ⟨rfl, HT0.out.b⟩
    · have q2 : decide ((m : Int) > 20) = false := by simpa using g2
      by_cases g3 : (wn : Int) > 100
      · have q3 : decide ((wn : Int) > 100) = true := by simpa using g3
        go_wp2_with fail
        go_ret
        exact ⟨rfl, HT0.out.b⟩
      · have q3 : decide ((wn : Int) > 100) = false := by simpa using g3
        go_upto_region 3 with (fail)
        clear k3 k4 q1 q2 q3
        have hkk := HT0.out.k
        go_wp2_with (first
          | (refine wpList_load_row rfl 23 _ rfl (w.heap.size + 1) rfl 23 _ (0, 0) _ HT0.out.x Tryd.underlying23 rfl (info_h HX.out) ?_)
          | (refine wpList_build_eqG rfl 29 [(0, .tmp 34), (1, .const (.int .i64 1))] rfl [(0, .agg (hvA x)), (1, .int .i64 1)] rfl _ (buildSg2 x 1 HX.out _) ?_))
        refine (rsign_ok x 1 0 dg7 v0 HX.out dg7_ok (by omega) (by decide)).mono ?_
        rintro e v1 ⟨spc, capc, spp, capp, rfl, hcm, hpm, hb⟩
        have HC3 : Hid (OwnHv v1 0 (.slice spc 68 capc) (sigB x (0 : Nat) dg7)) := hcm.base (Nat.zero_le _)
        have HP3 : Hid (OwnHv v1 0 (.slice spp 1 capp) (pathB x 1 0)) := hpm.base (Nat.zero_le _)
        have HS1 : Hid (v1.heap[w.heap.size]? = some (.cells (siA a (.slice sp1 n c1) (.slice sp2 m c2)) 37 (0, 0))) := (hb.block _ (by omega)).trans HT0.out.s
        have HBv1 : Hid (Below w.heap.size w v1) := HT0.out.b.trans (hb.mono (by omega))
        have hs1 := hb.size
        clear hcm hpm hb
        have HCLM : Hid ((sigB x (0 : Nat) dg7).length = 68) := sigB_len _ _ _
        have HPLM : Hid ((pathB x 1 0).length = 1) := pathB_len _ _ _
        generalize sigB x ((0 : Nat) : Int) dg7 = clm at *
        generalize pathB x 1 0 = plm at *
        have HZZ := Lib.hid (ZzBox.new v1)
        have HIS : Hid (v1.heap.size + 1 ≠ v1.heap.size) := by show _ ≠ _; omega
        go_upto_region 4 with (first
          | (generalize hz : World.alloc (World.alloc v1 _) _ = wz; have HZ4 : Hid (ZzBox v1 wz) := (by rw [← hz]; exact HZZ.out); clear hz HZZ; have HC4 : Hid (OwnHv wz 0 (.slice spc 68 capc) clm) := HC3.out.below HZ4.out.b; have HP4 : Hid (OwnHv wz 0 (.slice spp 1 capp) plm) := HP3.out.below HZ4.out.b; refine wpList_store_row rfl 29 _ _ rfl v1.heap.size _ rfl rfl 29 _ HZ4.out.y (info_sg HX.out) (by rw [sgA_size HX.out, sgA_size zh16_H16]) (one_sg _ _ _) ?_; generalize hw5 : World.setRow wz _ _ = w5; have HZ5 : Hid (w5.heap[v1.heap.size + 1]? = some (.cells (siA 0 nilS nilS) 37 (0, 0))) := (by rw [← hw5]; exact (setRow_other _ _ _ _ HIS.out).trans HZ4.out.z); have HB5 : Hid (Below v1.heap.size v1 w5) := (by rw [← hw5]; exact below_setRow HZ4.out.b (Nat.le_refl _) _); have HC5 : Hid (OwnHv w5 0 (.slice spc 68 capc) clm) := (by rw [← hw5]; exact HC4.out.setRow HZ4.out.y ne_sg _); have HP5 : Hid (OwnHv w5 0 (.slice spp 1 capp) plm) := (by rw [← hw5]; exact HP4.out.setRow HZ4.out.y ne_sg _); have hz5 : v1.heap.size + 2 ≤ w5.heap.size := (by rw [← hw5]; simp [World.setRow]; have := HZ4.out.k; omega); clear hw5 HC4 HP4 HZ4)
          | (refine wpList_store_row rfl 37 _ _ rfl (v1.heap.size + 1) (siA 0 (.slice spc 68 capc) (.slice spp 1 capp)) rfl rfl 37 _ HZ5.out (info_si _ _ _) rfl (one_si _ _ _ _ _ _ _) ?_; generalize hw6 : World.setRow w5 _ _ = w6; have HZ6 : Hid (w6.heap[v1.heap.size + 1]? = some (.cells (siA 0 (.slice spc 68 capc) (.slice spp 1 capp)) 37 (0, 0))) := (by rw [← hw6]; exact setRow_heap _ _ _ _ _ _ HZ5.out); have HB6 : Hid (Below v1.heap.size v1 w6) := (by rw [← hw6]; exact below_setRow HB5.out (Nat.le_succ _) _); have HC6 : Hid (OwnHv w6 0 (.slice spc 68 capc) clm) := (by rw [← hw6]; exact HC5.out.setRow HZ5.out ne_si _); have HP6 : Hid (OwnHv w6 0 (.slice spp 1 capp) plm) := (by rw [← hw6]; exact HP5.out.setRow HZ5.out ne_si _); have hz6 : v1.heap.size + 2 ≤ w6.heap.size := (by rw [← hw6]; simp [World.setRow]; omega); clear hw6 HZ5 HB5 HC5 HP5 hz5))
        have HDv : Hid (WdD w a (.slice sp1 n c1) (.slice sp2 m c2) (v1.heap.size + 1) spc spp capc capp clm plm w6) := ⟨(HB6.out.block _ (by omega)).trans HS1.out, HBv1.out.trans (HB6.out.mono (by omega)), HZ6.out, HC6.out, HP6.out, by omega⟩
        clear HS1 HBv1 HC3 HP3 HIS HZ6 HB6 HC6 HP6 hz6 HT0
        generalize v1.heap.size + 1 = gm at *
        generalize w6 = v at *
        have hna : n ≤ 100 := by omega
        have hma : m ≤ 20 := by omega
        have hwa : wn ≤ 100 := by omega
        have HCW := Lib.hid (fun w' (hb : Below w.heap.size w w') (hz : w.heap.size < w'.heap.size) => (show Calls Tryd.prog 12 #[.agg (siL a (.slice sp1 n c1) (.slice sp2 m c2)).toArray] w' fun e w'' => ∃ sp cap, e = .returned (.slice sp (1 + n + m) cap) ∧ OwnW w'' w'.heap.size (.slice sp (1 + n + m) cap) (wordsB a cl pl) ∧ Below w'.heap.size w' w'' from words_any a sp1 n c1 cl sp2 m c2 pl w' h0 h1 ((HC.out.below hb (Nat.le_refl _)).more (by omega)) ((HP.out.below hb (Nat.le_refl _)).more (by omega)) HN1.out HN2.out (by omega) (by omega) (HT10.out.below hb ht0) (by omega)))
        have HCR := Lib.hid (fun w' (hb : Below w.heap.size w w') (hz : w.heap.size < w'.heap.size) => (show Calls Tryd.prog 13 #[.agg (siL a (.slice sp1 n c1) (.slice sp2 m c2)).toArray] w' fun e w'' => ∃ sp cap, e = .returned (.slice sp (1 + n + m) cap) ∧ OwnW w'' w'.heap.size (.slice sp (1 + n + m) cap) (wordsB a cl pl) ∧ Below w'.heap.size w' w'' from rwords_any a sp1 n c1 cl sp2 m c2 pl w' h0 h1 ((HC.out.below hb (Nat.le_refl _)).more (by omega)) ((HP.out.below hb (Nat.le_refl _)).more (by omega)) (by omega) (by omega)))
        have HCM := Lib.hid (fun w' (d : WdD w a (.slice sp1 n c1) (.slice sp2 m c2) gm spc spp capc capp clm plm w') => (show Calls Tryd.prog 12 #[.agg (siL 0 (.slice spc 68 capc) (.slice spp 1 capp)).toArray] w' fun e w'' => ∃ sp cap, e = .returned (.slice sp 70 cap) ∧ OwnW w'' w'.heap.size (.slice sp 70 cap) (wordsB 0 clm plm) ∧ Below w'.heap.size w' w'' from words_any 0 spc 68 capc clm spp 1 capp plm w' (by omega) (by omega) (d.oc.hvs HCLM.out) (d.op.hvs HPLM.out) (by obtain ⟨g, _, e, _⟩ := d.oc.at68 (by omega); rw [e]; intro h; cases h) (by obtain ⟨g, _, e, _⟩ := d.op.at68 (by omega); rw [e]; intro h; cases h) (by omega) (by omega) (HT10.out.below d.b ht0) (by have := d.b.size; omega)))
        refine wp_region_held_drew (S := fun w' => w'.heap[w.heap.size]? = some (.cells (siA a (.slice sp1 n c1) (.slice sp2 m c2)) 37 (0, 0))) (by kernel_rfl) HDv.out.s (fun hHeld => ?_)
        refine' wpAnyH_take (i := 0) (oi := _) (v := _) rfl (by kernel_rfl) (by kernel_rfl) (by kernel_rfl) (fun _ _ _ h => h) (yieldsIf_load_mid (by rfl) _ _ rfl _ _ rfl _ _ ?hS0n1 Tryd.underlying37 rfl (info_siL a (.slice sp1 n c1) (.slice sp2 m c2))) (by assumption) ?rest0n1
        case hS0n1 =>
          intro w' hSw
          exact row_rngK (L := (siL a (.slice sp1 n c1) (.slice sp2 m c2))) hSw
        try simp only [Act.put, List.getElem_toArray, List.getElem_cons_succ, List.getElem_cons_zero, List.setIfInBounds_toArray, List.set_cons_zero, List.set_cons_succ]
        refine' wpAnyH_take (i := 2) (oi := _) (v := _) rfl (by kernel_rfl) (by kernel_rfl) (by kernel_rfl) (fun _ _ _ h => h) (yieldsIf_load_mid (by rfl) _ _ rfl _ _ rfl _ _ ?hS2n2 Tryd.underlying37 rfl (info_siL a (.slice sp1 n c1) (.slice sp2 m c2))) (by assumption) ?rest2n2
        case hS2n2 =>
          intro w' hSw
          exact row_rngK (L := (siL a (.slice sp1 n c1) (.slice sp2 m c2))) hSw
        try simp only [Act.put, List.getElem_toArray, List.getElem_cons_succ, List.getElem_cons_zero, List.setIfInBounds_toArray, List.set_cons_zero, List.set_cons_succ]
        refine wpAnyH_ready (rs := [1]) (by kernel_rfl) (by simp) (AllReadyH.cons (o := _) rfl (fun K hK => ?_) AllReadyH.nil)
        go_simp
        with_reducible refine (HCW.out _ HDv.out.b.drew (by have h := HDv.out.i; have h2 := (Below.refl v.heap.size v).drew.size; omega)).mono ?_
        rintro e v2 ⟨spa, capa, rfl, ho, hb⟩
        have HEv2 : Hid (Below v.heap.size v v2) := (Below.refl _ _).drew.trans hb
        have HDv2 : Hid (WdD w a (.slice sp1 n c1) (.slice sp2 m c2) gm spc spp capc capp clm plm v2) := HDv.out.below HEv2.out
        have HOa : Hid (OwnW v2 0 (.slice spa (1 + n + m) capa) (wordsB a cl pl)) := ho.base (Nat.zero_le _)
        clear ho hb
        go_wp2_with fail
        refine hK.out _ _ HDv2.out.s (fun hHeld => ?_)
        clear hK K
        try simp only [Act.put, List.getElem_toArray, List.getElem_cons_succ, List.getElem_cons_zero, List.setIfInBounds_toArray, List.set_cons_zero, List.set_cons_succ]
        refine wpAnyH_ready (rs := [3]) (by kernel_rfl) (by simp) (AllReadyH.cons (o := _) rfl (fun K hK => ?_) AllReadyH.nil)
        go_simp
        with_reducible refine (HCR.out _ HDv2.out.b (by have := HDv2.out.i; omega)).mono ?_
        rintro e v3 ⟨spb, capb, rfl, ho, hb⟩
        have HEv3 : Hid (Below v2.heap.size v2 v3) := hb
        have HDv3 : Hid (WdD w a (.slice sp1 n c1) (.slice sp2 m c2) gm spc spp capc capp clm plm v3) := HDv2.out.below HEv3.out
        have HOa3 : Hid (OwnW v3 0 (.slice spa (1 + n + m) capa) (wordsB a cl pl)) := HOa.out.below hb
        have HOb3 : Hid (OwnW v3 0 (.slice spb (1 + n + m) capb) (wordsB a cl pl)) := ho.base (Nat.zero_le _)
        clear ho hb HOa
        go_wp2_with fail
        refine hK.out _ _ HDv3.out.s (fun hHeld => ?_)
        clear hK K
        try simp only [Act.put, List.getElem_toArray, List.getElem_cons_succ, List.getElem_cons_zero, List.setIfInBounds_toArray, List.set_cons_zero, List.set_cons_succ]
        refine wpAnyH_ready (rs := [4]) (by kernel_rfl) (by simp) (AllReadyH.cons (o := _) rfl (fun K hK => ?_) AllReadyH.nil)
        go_simp
        with_reducible refine (sameW_any spa spb (1 + n + m) capa capb v3.heap.size (wordsB a cl pl) v3 (HOa3.out.strs (wordsB_len HC.out.len HP.out.len)) (HOb3.out.strs (wordsB_len HC.out.len HP.out.len)) (by omega)).mono ?_
        rintro e v4 ⟨rfl, q, hq⟩
        have hb : Below v3.heap.size v3 v4 := by rw [hq]; exact below_drewN (Below.refl _ _) _
        have HEv4 : Hid (Below v3.heap.size v3 v4) := hb
        have HDv4 : Hid (WdD w a (.slice sp1 n c1) (.slice sp2 m c2) gm spc spp capc capp clm plm v4) := HDv3.out.below HEv4.out
        clear hb hq HOa3 HOb3
        go_wp2_with fail
        refine hK.out _ _ HDv4.out.s (fun hHeld => ?_)
        clear hK K
        try simp only [Act.put, List.getElem_toArray, List.getElem_cons_succ, List.getElem_cons_zero, List.setIfInBounds_toArray, List.set_cons_zero, List.set_cons_succ]
        refine wpAnyH_take (i := 5) (oi := _) (v := ?v5n3) rfl (by kernel_rfl) (by kernel_rfl) (by kernel_rfl) (fun _ _ _ h => h) (Or.inl ⟨by rfl, ?hy5n3⟩) (by assumption) ?rest5n3
        case hy5n3 =>
          intro w' hSw
          go_simp
          try with_reducible rfl
        try simp only [Act.put, List.getElem_toArray, List.getElem_cons_succ, List.getElem_cons_zero, List.setIfInBounds_toArray, List.set_cons_zero, List.set_cons_succ]
        refine wpAnyH_done (by kernel_rfl) ?_ _
        go_wp2_with fail
        clear HEv2 HEv3 HEv4 HDv HDv2 HDv3
        refine wp_region_held_drew (S := fun w' => w'.heap[w.heap.size]? = some (.cells (siA a (.slice sp1 n c1) (.slice sp2 m c2)) 37 (0, 0)) ∧ w'.heap[gm]? = some (.cells (siA 0 (.slice spc 68 capc) (.slice spp 1 capp)) 37 (0, 0))) (by kernel_rfl) ⟨HDv4.out.s, HDv4.out.g⟩ (fun hHeld => ?_)
        refine wpAnyH_take (i := 0) (oi := _) (v := ?v0n4) rfl (by kernel_rfl) (by kernel_rfl) (by kernel_rfl) (fun _ _ _ h => h) (Or.inl ⟨by rfl, ?hy0n4⟩) (by assumption) ?rest0n4
        case hy0n4 =>
          intro w' hSw
          go_simp
          try with_reducible rfl
        try simp only [Act.put, List.getElem_toArray, List.getElem_cons_succ, List.getElem_cons_zero, List.setIfInBounds_toArray, List.set_cons_zero, List.set_cons_succ]
        refine' wpAnyH_take (i := 1) (oi := _) (v := _) rfl (by kernel_rfl) (by kernel_rfl) (by kernel_rfl) (fun _ _ _ h => h) (yieldsIf_load_mid (by rfl) _ _ rfl _ _ rfl _ _ ?hS1n5 Tryd.underlying37 rfl (info_siL a (.slice sp1 n c1) (.slice sp2 m c2))) (by assumption) ?rest1n5
        case hS1n5 =>
          intro w' hSw
          exact row_rngK (L := (siL a (.slice sp1 n c1) (.slice sp2 m c2))) hSw.1
        try simp only [Act.put, List.getElem_toArray, List.getElem_cons_succ, List.getElem_cons_zero, List.setIfInBounds_toArray, List.set_cons_zero, List.set_cons_succ]
        refine' wpAnyH_take (i := 3) (oi := _) (v := _) rfl (by kernel_rfl) (by kernel_rfl) (by kernel_rfl) (fun _ _ _ h => h) (yieldsIf_load_mid (by rfl) _ _ rfl _ _ rfl _ _ ?hS3n6 Tryd.underlying37 rfl (info_siL 0 (.slice spc 68 capc) (.slice spp 1 capp))) (by assumption) ?rest3n6
        case hS3n6 =>
          intro w' hSw
          exact row_rngK (L := (siL 0 (.slice spc 68 capc) (.slice spp 1 capp))) hSw.2
        try simp only [Act.put, List.getElem_toArray, List.getElem_cons_succ, List.getElem_cons_zero, List.setIfInBounds_toArray, List.set_cons_zero, List.set_cons_succ]
        refine wpAnyH_take (i := 7) (oi := _) (v := ?v7n7) rfl (by kernel_rfl) (by kernel_rfl) (by kernel_rfl) (fun _ _ _ h => h) (Or.inl ⟨by rfl, ?hy7n7⟩) (by assumption) ?rest7n7
        case hy7n7 =>
          intro w' hSw
          go_simp
          try with_reducible rfl
        try simp only [Act.put, List.getElem_toArray, List.getElem_cons_succ, List.getElem_cons_zero, List.setIfInBounds_toArray, List.set_cons_zero, List.set_cons_succ]
        refine wpAnyH_ready (rs := [2]) (by kernel_rfl) (by simp) (AllReadyH.cons (o := _) rfl (fun K hK => ?_) AllReadyH.nil)
        go_simp
        with_reducible refine (HCW.out _ HDv4.out.b.drew (by have h := HDv4.out.i; have h2 := (Below.refl v4.heap.size v4).drew.size; omega)).mono ?_
        rintro e v5 ⟨spa, capa, rfl, ho, hb⟩
        have HEv5 : Hid (Below v4.heap.size v4 v5) := (Below.refl _ _).drew.trans hb
        have HDv5 : Hid (WdD w a (.slice sp1 n c1) (.slice sp2 m c2) gm spc spp capc capp clm plm v5) := HDv4.out.below HEv5.out
        have HOa : Hid (OwnW v5 0 (.slice spa (1 + n + m) capa) (wordsB a cl pl)) := ho.base (Nat.zero_le _)
        clear ho hb
        go_wp2_with fail
        refine hK.out _ _ ⟨HDv5.out.s, HDv5.out.g⟩ (fun hHeld => ?_)
        clear hK K
        try simp only [Act.put, List.getElem_toArray, List.getElem_cons_succ, List.getElem_cons_zero, List.setIfInBounds_toArray, List.set_cons_zero, List.set_cons_succ]
        refine wpAnyH_ready (rs := [4]) (by kernel_rfl) (by simp) (AllReadyH.cons (o := _) rfl (fun K hK => ?_) AllReadyH.nil)
        go_simp
        with_reducible refine (HCM.out _ HDv5.out).mono ?_
        rintro e v6 ⟨spb, capb, rfl, ho, hb⟩
        have HEv6 : Hid (Below v5.heap.size v5 v6) := hb
        have HDv6 : Hid (WdD w a (.slice sp1 n c1) (.slice sp2 m c2) gm spc spp capc capp clm plm v6) := HDv5.out.below HEv6.out
        have HOa6 : Hid (OwnW v6 0 (.slice spa (1 + n + m) capa) (wordsB a cl pl)) := HOa.out.below hb
        have HOb6 : Hid (OwnW v6 0 (.slice spb 70 capb) (wordsB 0 clm plm)) := ho.base (Nat.zero_le _)
        clear ho hb HOa
        go_wp2_with fail
        refine hK.out _ _ ⟨HDv6.out.s, HDv6.out.g⟩ (fun hHeld => ?_)
        clear hK K
        try simp only [Act.put, List.getElem_toArray, List.getElem_cons_succ, List.getElem_cons_zero, List.setIfInBounds_toArray, List.set_cons_zero, List.set_cons_succ]
        refine wpAnyH_ready (rs := [5]) (by kernel_rfl) (by simp) (AllReadyH.cons (o := _) rfl (fun K hK => ?_) AllReadyH.nil)
        go_simp
        generalize hw : World.alloc v6 _ = v7
        have HR7 : Hid (v7.heap[v6.heap.size]? = some (.cells #[.slice wsp wn wcap, .slice spa (1 + n + m) capa, .slice spb 70 capb] 43 (0, 0))) := by rw [← hw]; exact heap_alloc_new v6 _
        have HEv7 : Hid (Below v6.heap.size v6 v7) := by rw [← hw]; exact below_alloc _ _
        have hs7 : v6.heap.size < v7.heap.size := by rw [← hw]; simp
        clear hw
        have HDv7 : Hid (WdD w a (.slice sp1 n c1) (.slice sp2 m c2) gm spc spp capc capp clm plm v7) := HDv6.out.below HEv7.out
        have HOa7 := Lib.hid (HOa6.out.below HEv7.out); have HOb7 := Lib.hid (HOb6.out.below HEv7.out)
        refine hK.out _ _ ⟨HDv7.out.s, HDv7.out.g⟩ (fun hHeld => ?_)
        clear hK K
        try simp only [Act.put, List.getElem_toArray, List.getElem_cons_succ, List.getElem_cons_zero, List.setIfInBounds_toArray, List.set_cons_zero, List.set_cons_succ]
        refine wpAnyH_take (i := 6) (oi := _) (v := ?v6n8) rfl (by kernel_rfl) (by kernel_rfl) (by kernel_rfl) (fun _ _ _ h => h) (Or.inl ⟨by rfl, ?hy6n8⟩) (by assumption) ?rest6n8
        case hy6n8 =>
          intro w' hSw
          go_simp
          try with_reducible rfl
        try simp only [Act.put, List.getElem_toArray, List.getElem_cons_succ, List.getElem_cons_zero, List.setIfInBounds_toArray, List.set_cons_zero, List.set_cons_succ]
        refine wpAnyH_done (by kernel_rfl) ?_ _
        go_wp2_with fail
        clear HEv5 HEv6 HEv7 HDv4 HDv5 HDv6 HOa6 HOb6
        generalize v6.heap.size = g3 at *
        have HBw7 : Hid (Below w.heap.size w v7) := HDv7.out.b
        have hs7w := HDv7.out.b.size
        go_loopw [54] (fun i wr => ∃ k : Nat, k ≤ 3 ∧ i = .int .i64 (k : Int) ∧ Hid (Below v7.heap.size v7 wr)) (fun i _ => 3 - (intOf i).toNat)
        case atStart => exact ⟨0, by omega, rfl, Below.refl _ _⟩
        case round =>
          obtain ⟨k, hk3, rfl, HBR⟩ := hrel
          rcases (show k = 0 ∨ k = 1 ∨ k = 2 ∨ k = 3 by omega) with rfl | rfl | rfl | rfl
          · have ck : wr.cell? ⟨g3, 0, none⟩ = some (.slice wsp wn wcap) := (HBR.out.cell (p := ⟨g3, 0, none⟩) (by show g3 < v7.heap.size; omega)).trans (heap_cellO (L := [.slice wsp wn wcap, .slice spa (1 + n + m) capa, .slice spb 70 capb]) HR7.out rfl)
            have HRA := Lib.hid (fun u (hb : Below v7.heap.size v7 u) => read_any wsp wn wcap wl u ((((HW.out.below HBw7.out (Nat.le_refl _))).below hb (by first | exact Nat.le_refl _ | omega)).more (by have := hb.size; omega)) hwcap (by omega) hwmx)
            have HRB := Lib.hid (fun u (hb : Below v7.heap.size v7 u) => rread_any wsp wn wcap wl u ((((HW.out.below HBw7.out (Nat.le_refl _))).below hb (by first | exact Nat.le_refl _ | omega)).more (by have := hb.size; omega)) hwcap (by omega))
            have hrc := rdC_le wl
            have hrp : (rdP wl).length ≤ 1000 := rdP_le (by rw [HW.out.len]; omega)
            unfold RdP at HRA HRB
            generalize rdA wl = ra at *
            generalize rdC wl = rc at *
            generalize rdP wl = rp at *
            generalize rdK wl = rk at *
            go_wp2_with fail
            clear ck
            refine (HRA.out wr HBR.out).mono ?_
            rintro e u1 ⟨sr1, cr1, sr2, cr2, rfl, hc1, hp1, hb1⟩
            have HE1 := Lib.hid hb1; have HC1 := Lib.hid hc1; have HP1 := Lib.hid hp1
            clear hc1 hp1 hb1
            have HZN := Lib.hid (SxBox.new u1 0 nilS nilS)
            have HRN := Lib.hid (SxBox.new u1 ra (.slice sr1 rc.length cr1) (.slice sr2 rp.length cr2))
            go_wp2_with (refine wpList_store_row rfl 37 _ _ rfl u1.heap.size (siA ra (.slice sr1 rc.length cr1) (.slice sr2 rp.length cr2)) rfl rfl 37 _ HZN.out.s (info_si _ _ _) rfl (one_si _ _ _ _ _ _ _) ?_; rw [setRow_new]; generalize hw1 : World.alloc u1 _ = u2; have HS2 : Hid (SxBox u1 ra (.slice sr1 rc.length cr1) (.slice sr2 rp.length cr2) u2) := (by rw [← hw1]; exact HRN.out); clear hw1 HZN HRN)
            have hsu := HE1.out.size
            have HBu2 : Hid (Below v7.heap.size v7 u2) := HBR.out.trans ((HE1.out.mono HBR.out.size).trans (HS2.out.b.mono (by have := HBR.out.size; omega)))
            refine (HRB.out u2 HBu2.out).mono ?_
            rintro e u3 ⟨ss1, cs1, ss2, cs2, rfl, hc3, hp3, hb3⟩
            have HE3 := Lib.hid hb3; have HC3 := Lib.hid hc3; have HP3 := Lib.hid hp3
            clear hc3 hp3 hb3
            have HZN := Lib.hid (SxBox.new u3 0 nilS nilS)
            have HRN := Lib.hid (SxBox.new u3 ra (.slice ss1 rc.length cs1) (.slice ss2 rp.length cs2))
            have hs2 : u1.heap.size + 1 ≤ u2.heap.size := Nat.le_of_eq HS2.out.k.symm
            have hs3 := HE3.out.size
            have qk : (rk != rk) = false := by simp
            have HIDs := Lib.hid (info_siL ra (.slice sr1 rc.length cr1) (.slice sr2 rp.length cr2))
            have HIDt := Lib.hid (info_siL ra (.slice ss1 rc.length cs1) (.slice ss2 rp.length cs2))
            go_wp2_with (first
              | (refine wpList_store_row rfl 37 _ _ rfl u3.heap.size (siA ra (.slice ss1 rc.length cs1) (.slice ss2 rp.length cs2)) rfl rfl 37 _ HZN.out.s (info_si _ _ _) rfl (one_si _ _ _ _ _ _ _) ?_; rw [setRow_new]; generalize hw1 : World.alloc u3 _ = u4; have HS4 : Hid (SxBox u3 ra (.slice ss1 rc.length cs1) (.slice ss2 rp.length cs2) u4) := (by rw [← hw1]; exact HRN.out); clear hw1 HZN HRN; have HQa := Lib.hid (row_rngK (L := siL ra (.slice sr1 rc.length cr1) (.slice sr2 rp.length cr2)) ((HS4.out.b.block _ (by omega)).trans ((HE3.out.block _ (by omega)).trans HS2.out.s))); have HQb := Lib.hid (row_rngK (L := siL ra (.slice ss1 rc.length cs1) (.slice ss2 rp.length cs2)) HS4.out.s))
              | (refine wpList_load_mid_gK (by rfl) 37 _ rfl u1.heap.size 0 rfl _ _ HQa.out Tryd.underlying37 rfl HIDs.out ?_)
              | (refine wpList_load_mid_gK (by rfl) 37 _ rfl u3.heap.size 0 rfl _ _ HQb.out Tryd.underlying37 rfl HIDt.out ?_))
            have HEx : Hid (Below u1.heap.size u1 u4) := HS2.out.b.trans ((HE3.out.mono (by omega)).trans (HS4.out.b.mono (by omega)))
            have hs4 := HS4.out.b.size
            refine (rsame_any ra sr1 sr2 ss1 ss2 rc.length rp.length cr1 cr2 cs1 cs2 rc rp u4 (((HC1.out.below HEx.out)).hvs rfl) (((HP1.out.below HEx.out)).hvs rfl) ((HC3.out.below HS4.out.b).hvs rfl) ((HP3.out.below HS4.out.b).hvs rfl) hrc hrp).mono ?_
            rintro e u5 ⟨rfl, hb5⟩
            have HB5 : Hid (Below v7.heap.size v7 u5) := HBu2.out.trans ((HE3.out.mono (by have := HBu2.out.size; omega)).trans ((HS4.out.b.mono (by have := HBu2.out.size; omega)).trans (hb5.mono (by have := HBu2.out.size; omega))))
            clear hb5
            go_wp2_with fail
            go_roundw
            case rel => exact ⟨1, by omega, by go_num, HB5.out⟩
            case measure => simp [intOf]
          · have ck : wr.cell? ⟨g3, 1, none⟩ = some (.slice spa (1 + n + m) capa) := (HBR.out.cell (p := ⟨g3, 1, none⟩) (by show g3 < v7.heap.size; omega)).trans (heap_cellO (L := [.slice wsp wn wcap, .slice spa (1 + n + m) capa, .slice spb 70 capb]) HR7.out rfl)
            have HRA := Lib.hid (fun u (hb : Below v7.heap.size v7 u) => read_any spa (1 + n + m) capa (wordsB a cl pl) u ((((HOa7.out.strs (wordsB_len HC.out.len HP.out.len))).below hb (by first | exact Nat.le_refl _ | omega)).more (by have := hb.size; omega)) (HOa7.out.cap (wordsB_len HC.out.len HP.out.len) (by omega)) (by omega) (numS_size a h0 h1 cl pl))
            have HRB := Lib.hid (fun u (hb : Below v7.heap.size v7 u) => rread_any spa (1 + n + m) capa (wordsB a cl pl) u ((((HOa7.out.strs (wordsB_len HC.out.len HP.out.len))).below hb (by first | exact Nat.le_refl _ | omega)).more (by have := hb.size; omega)) (HOa7.out.cap (wordsB_len HC.out.len HP.out.len) (by omega)) (by omega))
            have hrc := rdC_le (wordsB a cl pl)
            have hrp : (rdP (wordsB a cl pl)).length ≤ 1000 := rdP_le (by rw [(wordsB_len HC.out.len HP.out.len)]; omega)
            unfold RdP at HRA HRB
            generalize rdA (wordsB a cl pl) = ra at *
            generalize rdC (wordsB a cl pl) = rc at *
            generalize rdP (wordsB a cl pl) = rp at *
            generalize rdK (wordsB a cl pl) = rk at *
            go_wp2_with fail
            clear ck
            refine (HRA.out wr HBR.out).mono ?_
            rintro e u1 ⟨sr1, cr1, sr2, cr2, rfl, hc1, hp1, hb1⟩
            have HE1 := Lib.hid hb1; have HC1 := Lib.hid hc1; have HP1 := Lib.hid hp1
            clear hc1 hp1 hb1
            have HZN := Lib.hid (SxBox.new u1 0 nilS nilS)
            have HRN := Lib.hid (SxBox.new u1 ra (.slice sr1 rc.length cr1) (.slice sr2 rp.length cr2))
            go_wp2_with (refine wpList_store_row rfl 37 _ _ rfl u1.heap.size (siA ra (.slice sr1 rc.length cr1) (.slice sr2 rp.length cr2)) rfl rfl 37 _ HZN.out.s (info_si _ _ _) rfl (one_si _ _ _ _ _ _ _) ?_; rw [setRow_new]; generalize hw1 : World.alloc u1 _ = u2; have HS2 : Hid (SxBox u1 ra (.slice sr1 rc.length cr1) (.slice sr2 rp.length cr2) u2) := (by rw [← hw1]; exact HRN.out); clear hw1 HZN HRN)
            have hsu := HE1.out.size
            have HBu2 : Hid (Below v7.heap.size v7 u2) := HBR.out.trans ((HE1.out.mono HBR.out.size).trans (HS2.out.b.mono (by have := HBR.out.size; omega)))
            refine (HRB.out u2 HBu2.out).mono ?_
            rintro e u3 ⟨ss1, cs1, ss2, cs2, rfl, hc3, hp3, hb3⟩
            have HE3 := Lib.hid hb3; have HC3 := Lib.hid hc3; have HP3 := Lib.hid hp3
            clear hc3 hp3 hb3
            have HZN := Lib.hid (SxBox.new u3 0 nilS nilS)
            have HRN := Lib.hid (SxBox.new u3 ra (.slice ss1 rc.length cs1) (.slice ss2 rp.length cs2))
            have hs2 : u1.heap.size + 1 ≤ u2.heap.size := Nat.le_of_eq HS2.out.k.symm
            have hs3 := HE3.out.size
            have qk : (rk != rk) = false := by simp
            have HIDs := Lib.hid (info_siL ra (.slice sr1 rc.length cr1) (.slice sr2 rp.length cr2))
            have HIDt := Lib.hid (info_siL ra (.slice ss1 rc.length cs1) (.slice ss2 rp.length cs2))
            go_wp2_with (first
              | (refine wpList_store_row rfl 37 _ _ rfl u3.heap.size (siA ra (.slice ss1 rc.length cs1) (.slice ss2 rp.length cs2)) rfl rfl 37 _ HZN.out.s (info_si _ _ _) rfl (one_si _ _ _ _ _ _ _) ?_; rw [setRow_new]; generalize hw1 : World.alloc u3 _ = u4; have HS4 : Hid (SxBox u3 ra (.slice ss1 rc.length cs1) (.slice ss2 rp.length cs2) u4) := (by rw [← hw1]; exact HRN.out); clear hw1 HZN HRN; have HQa := Lib.hid (row_rngK (L := siL ra (.slice sr1 rc.length cr1) (.slice sr2 rp.length cr2)) ((HS4.out.b.block _ (by omega)).trans ((HE3.out.block _ (by omega)).trans HS2.out.s))); have HQb := Lib.hid (row_rngK (L := siL ra (.slice ss1 rc.length cs1) (.slice ss2 rp.length cs2)) HS4.out.s))
              | (refine wpList_load_mid_gK (by rfl) 37 _ rfl u1.heap.size 0 rfl _ _ HQa.out Tryd.underlying37 rfl HIDs.out ?_)
              | (refine wpList_load_mid_gK (by rfl) 37 _ rfl u3.heap.size 0 rfl _ _ HQb.out Tryd.underlying37 rfl HIDt.out ?_))
            have HEx : Hid (Below u1.heap.size u1 u4) := HS2.out.b.trans ((HE3.out.mono (by omega)).trans (HS4.out.b.mono (by omega)))
            have hs4 := HS4.out.b.size
            refine (rsame_any ra sr1 sr2 ss1 ss2 rc.length rp.length cr1 cr2 cs1 cs2 rc rp u4 (((HC1.out.below HEx.out)).hvs rfl) (((HP1.out.below HEx.out)).hvs rfl) ((HC3.out.below HS4.out.b).hvs rfl) ((HP3.out.below HS4.out.b).hvs rfl) hrc hrp).mono ?_
            rintro e u5 ⟨rfl, hb5⟩
            have HB5 : Hid (Below v7.heap.size v7 u5) := HBu2.out.trans ((HE3.out.mono (by have := HBu2.out.size; omega)).trans ((HS4.out.b.mono (by have := HBu2.out.size; omega)).trans (hb5.mono (by have := HBu2.out.size; omega))))
            clear hb5
            go_wp2_with fail
            go_roundw
            case rel => exact ⟨2, by omega, by go_num, HB5.out⟩
            case measure => simp [intOf]
          · have ck : wr.cell? ⟨g3, 2, none⟩ = some (.slice spb 70 capb) := (HBR.out.cell (p := ⟨g3, 2, none⟩) (by show g3 < v7.heap.size; omega)).trans (heap_cellO (L := [.slice wsp wn wcap, .slice spa (1 + n + m) capa, .slice spb 70 capb]) HR7.out rfl)
            have HRA := Lib.hid (fun u (hb : Below v7.heap.size v7 u) => read_any spb 70 capb (wordsB 0 clm plm) u ((((HOb7.out.strs (wordsB_len HCLM.out HPLM.out))).below hb (by first | exact Nat.le_refl _ | omega)).more (by have := hb.size; omega)) (HOb7.out.cap (wordsB_len HCLM.out HPLM.out) (by omega)) (by omega) (numS_size 0 (by omega) (by omega) clm plm))
            have HRB := Lib.hid (fun u (hb : Below v7.heap.size v7 u) => rread_any spb 70 capb (wordsB 0 clm plm) u ((((HOb7.out.strs (wordsB_len HCLM.out HPLM.out))).below hb (by first | exact Nat.le_refl _ | omega)).more (by have := hb.size; omega)) (HOb7.out.cap (wordsB_len HCLM.out HPLM.out) (by omega)) (by omega))
            have hrc := rdC_le (wordsB 0 clm plm)
            have hrp : (rdP (wordsB 0 clm plm)).length ≤ 1000 := rdP_le (by rw [(wordsB_len HCLM.out HPLM.out)]; omega)
            unfold RdP at HRA HRB
            generalize rdA (wordsB 0 clm plm) = ra at *
            generalize rdC (wordsB 0 clm plm) = rc at *
            generalize rdP (wordsB 0 clm plm) = rp at *
            generalize rdK (wordsB 0 clm plm) = rk at *
            go_wp2_with fail
            clear ck
            refine (HRA.out wr HBR.out).mono ?_
            rintro e u1 ⟨sr1, cr1, sr2, cr2, rfl, hc1, hp1, hb1⟩
            have HE1 := Lib.hid hb1; have HC1 := Lib.hid hc1; have HP1 := Lib.hid hp1
            clear hc1 hp1 hb1
            have HZN := Lib.hid (SxBox.new u1 0 nilS nilS)
            have HRN := Lib.hid (SxBox.new u1 ra (.slice sr1 rc.length cr1) (.slice sr2 rp.length cr2))
            go_wp2_with (refine wpList_store_row rfl 37 _ _ rfl u1.heap.size (siA ra (.slice sr1 rc.length cr1) (.slice sr2 rp.length cr2)) rfl rfl 37 _ HZN.out.s (info_si _ _ _) rfl (one_si _ _ _ _ _ _ _) ?_; rw [setRow_new]; generalize hw1 : World.alloc u1 _ = u2; have HS2 : Hid (SxBox u1 ra (.slice sr1 rc.length cr1) (.slice sr2 rp.length cr2) u2) := (by rw [← hw1]; exact HRN.out); clear hw1 HZN HRN)
            have hsu := HE1.out.size
            have HBu2 : Hid (Below v7.heap.size v7 u2) := HBR.out.trans ((HE1.out.mono HBR.out.size).trans (HS2.out.b.mono (by have := HBR.out.size; omega)))
            refine (HRB.out u2 HBu2.out).mono ?_
            rintro e u3 ⟨ss1, cs1, ss2, cs2, rfl, hc3, hp3, hb3⟩
            have HE3 := Lib.hid hb3; have HC3 := Lib.hid hc3; have HP3 := Lib.hid hp3
            clear hc3 hp3 hb3
            have HZN := Lib.hid (SxBox.new u3 0 nilS nilS)
            have HRN := Lib.hid (SxBox.new u3 ra (.slice ss1 rc.length cs1) (.slice ss2 rp.length cs2))
            have hs2 : u1.heap.size + 1 ≤ u2.heap.size := Nat.le_of_eq HS2.out.k.symm
            have hs3 := HE3.out.size
            have qk : (rk != rk) = false := by simp
            have HIDs := Lib.hid (info_siL ra (.slice sr1 rc.length cr1) (.slice sr2 rp.length cr2))
            have HIDt := Lib.hid (info_siL ra (.slice ss1 rc.length cs1) (.slice ss2 rp.length cs2))
            go_wp2_with (first
              | (refine wpList_store_row rfl 37 _ _ rfl u3.heap.size (siA ra (.slice ss1 rc.length cs1) (.slice ss2 rp.length cs2)) rfl rfl 37 _ HZN.out.s (info_si _ _ _) rfl (one_si _ _ _ _ _ _ _) ?_; rw [setRow_new]; generalize hw1 : World.alloc u3 _ = u4; have HS4 : Hid (SxBox u3 ra (.slice ss1 rc.length cs1) (.slice ss2 rp.length cs2) u4) := (by rw [← hw1]; exact HRN.out); clear hw1 HZN HRN; have HQa := Lib.hid (row_rngK (L := siL ra (.slice sr1 rc.length cr1) (.slice sr2 rp.length cr2)) ((HS4.out.b.block _ (by omega)).trans ((HE3.out.block _ (by omega)).trans HS2.out.s))); have HQb := Lib.hid (row_rngK (L := siL ra (.slice ss1 rc.length cs1) (.slice ss2 rp.length cs2)) HS4.out.s))
              | (refine wpList_load_mid_gK (by rfl) 37 _ rfl u1.heap.size 0 rfl _ _ HQa.out Tryd.underlying37 rfl HIDs.out ?_)
              | (refine wpList_load_mid_gK (by rfl) 37 _ rfl u3.heap.size 0 rfl _ _ HQb.out Tryd.underlying37 rfl HIDt.out ?_))
            have HEx : Hid (Below u1.heap.size u1 u4) := HS2.out.b.trans ((HE3.out.mono (by omega)).trans (HS4.out.b.mono (by omega)))
            have hs4 := HS4.out.b.size
            refine (rsame_any ra sr1 sr2 ss1 ss2 rc.length rp.length cr1 cr2 cs1 cs2 rc rp u4 (((HC1.out.below HEx.out)).hvs rfl) (((HP1.out.below HEx.out)).hvs rfl) ((HC3.out.below HS4.out.b).hvs rfl) ((HP3.out.below HS4.out.b).hvs rfl) hrc hrp).mono ?_
            rintro e u5 ⟨rfl, hb5⟩
            have HB5 : Hid (Below v7.heap.size v7 u5) := HBu2.out.trans ((HE3.out.mono (by have := HBu2.out.size; omega)).trans ((HS4.out.b.mono (by have := HBu2.out.size; omega)).trans (hb5.mono (by have := HBu2.out.size; omega))))
            clear hb5
            go_wp2_with fail
            go_roundw
            case rel => exact ⟨3, by omega, by go_num, HB5.out⟩
            case measure => simp [intOf]
          · have HD8 : Hid (WdD w a (.slice sp1 n c1) (.slice sp2 m c2) gm spc spp capc capp clm plm wr) := HDv7.out.below HBR.out
            have HQm := Lib.hid (row_rngK (L := (siL 0 (.slice spc 68 capc) (.slice spp 1 capp))) HD8.out.g)
            go_wp2_with (refine wpList_load_mid_gK (by rfl) 37 _ rfl gm 0 rfl _ _ HQm.out Tryd.underlying37 rfl (info_siL 0 (.slice spc 68 capc) (.slice spp 1 capp)) ?_)
            refine (HCM.out wr HD8.out).mono ?_
            rintro e u1 ⟨spx, capx, rfl, ho, hb⟩
            have HD1 : Hid (WdD w a (.slice sp1 n c1) (.slice sp2 m c2) gm spc spp capc capp clm plm u1) := HD8.out.below hb
            have HOx := Lib.hid ho
            clear ho hb HQm
            go_wp2_with fail
            have hrd := read_any spx 70 capx (wordsB 0 clm plm) u1 (HOx.out.strs (wordsB_len HCLM.out HPLM.out)) (HOx.out.cap (wordsB_len HCLM.out HPLM.out) (by omega)) (by omega) (numS_size 0 (by omega) (by omega) clm plm)
            obtain ⟨e1, e2, e3, e4⟩ := words_read (l := 0) (cl := clm) (pl := plm) (by omega) (by omega) HCLM.out (by rw [HPLM.out]; omega) HD1.out.oc.2 HD1.out.op.2
            unfold RdP at hrd
            rw [e1, e2, e3, e4, HCLM.out, HPLM.out] at hrd
            clear e1 e2 e3 e4
            refine hrd.mono ?_
            clear hrd
            rintro e u2 ⟨sr1, cr1, sr2, cr2, rfl, hc1, hp1, hb1⟩
            have HD2 : Hid (WdD w a (.slice sp1 n c1) (.slice sp2 m c2) gm spc spp capc capp clm plm u2) := HD1.out.below hb1
            have HC1 := Lib.hid hc1; have HP1 := Lib.hid hp1
            clear hc1 hp1 hb1
            have HZN := Lib.hid (SxBox.new u2 0 nilS nilS)
            have HRN := Lib.hid (SxBox.new u2 0 (.slice sr1 68 cr1) (.slice sr2 1 cr2))
            go_wp2_with (refine wpList_store_row rfl 37 _ _ rfl u2.heap.size (siA 0 (.slice sr1 68 cr1) (.slice sr2 1 cr2)) rfl rfl 37 _ HZN.out.s (info_si _ _ _) rfl (one_si _ _ _ _ _ _ _) ?_; rw [setRow_new]; generalize hw1 : World.alloc u2 _ = u3; have HS3 : Hid (SxBox u2 0 (.slice sr1 68 cr1) (.slice sr2 1 cr2) u3) := (by rw [← hw1]; exact HRN.out); clear hw1 HZN HRN)
            have HD3 : Hid (WdD w a (.slice sp1 n c1) (.slice sp2 m c2) gm spc spp capc capp clm plm u3) := HD2.out.below HS3.out.b
            have hs3 : u2.heap.size + 1 ≤ u3.heap.size := Nat.le_of_eq HS3.out.k.symm
            refine (awake_any u3 (HK.out.below HD3.out.b hk0) (by have := HD3.out.b.size; omega)).mono ?_
            rintro e u4 ⟨rfl, hb4⟩
            have HD4 : Hid (WdD w a (.slice sp1 n c1) (.slice sp2 m c2) gm spc spp capc capp clm plm u4) := HD3.out.below hb4
            have HQx := Lib.hid (row_rngK (L := siL 0 (.slice sr1 68 cr1) (.slice sr2 1 cr2)) ((hb4.block _ (by omega)).trans HS3.out.s))
            have HQm := Lib.hid (row_rngK (L := (siL 0 (.slice spc 68 capc) (.slice spp 1 capp))) HD4.out.g)
            have HC4 := Lib.hid ((HC1.out.below HS3.out.b).below hb4); have HP4 := Lib.hid ((HP1.out.below HS3.out.b).below hb4)
            clear hb4
            go_wp2_with (first
              | (refine wpList_load_mid_gK (by rfl) 37 _ rfl u2.heap.size 0 rfl _ _ HQx.out Tryd.underlying37 rfl (info_siL 0 (.slice sr1 68 cr1) (.slice sr2 1 cr2)) ?_)
              | (refine wpList_load_mid_gK (by rfl) 37 _ rfl gm 0 rfl _ _ HQm.out Tryd.underlying37 rfl (info_siL 0 (.slice spc 68 capc) (.slice spp 1 capp)) ?_))
            refine (rsame_any 0 sr1 sr2 spc spp 68 1 cr1 cr2 capc capp clm plm u4 (HC4.out.hvs HCLM.out) (HP4.out.hvs HPLM.out) (HD4.out.oc.hvs HCLM.out) (HD4.out.op.hvs HPLM.out) (by omega) (by omega)).mono ?_
            rintro e u5 ⟨rfl, hb5⟩
            have HBf : Hid (Below w.heap.size w u5) := HD4.out.b.trans (hb5.mono (by have := HD4.out.b.size; omega))
            clear hb5
            go_wp2_with fail
            go_ret
            exact ⟨rfl, HBf.out⟩
end Go.Proofs.YtbfgkbcpkldofaaDoor
