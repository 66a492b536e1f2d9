/-
  Versions: the walk of Sort (lists of at most 1000 strings).
-/
import Derived.Test.YtceeilojcifgeaaDoorVsoB
namespace Go.Proofs.YtceeilojcifgeaaDoor
open Go.RowKit Go.Sort

set_option maxRecDepth 100000 in
set_option maxHeartbeats 1000000 in
theorem insNil_any (F : Value) (w : World) : Calls Tryd.prog 51 #[.slice none 0 0, .int .i64 0, .int .i64 0, F] w fun e w' => e = .returned (.tuple #[]) ∧ w = w' := by
  go_enter Tryd.func51, Tryd.ntmps51
  go_wp2_with fail
  go_loopg [8] 1 (fun g vi wr => vi = .int .i64 1 ∧ w = wr)
  case atStart => exact ⟨rfl, rfl⟩
  case round =>
    obtain ⟨rfl, rfl⟩ := hrel
    go_wp2_with fail
    go_end0
    exact ⟨rfl, rfl⟩
set_option maxRecDepth 100000 in
set_option maxHeartbeats 1000000 in
theorem stabNil_any (F : Value) (w : World) : Calls Tryd.prog 38 #[.slice none 0 0, .int .i64 0, F] w fun e w' => e = .returned (.tuple #[]) ∧ w = w' := by
  have HI := Lib.hid (fun w => insNil_any F w)
  go_enter Tryd.func38, Tryd.ntmps38
  go_wp2_with fail
  go_loopg [7, 8] 1 (fun g va vb wr => va = .int .i64 0 ∧ vb = .int .i64 20 ∧ w = wr)
  case atStart => exact ⟨rfl, rfl, rfl⟩
  case round =>
    obtain ⟨rfl, rfl, rfl⟩ := hrel
    go_wp2_with fail
    refine (HI.out _).mono ?_
    rintro e w' ⟨rfl, rfl⟩
    go_wp2_with fail
    go_loopg [6] 1 (fun g vs wr => vs = .int .i64 20 ∧ w = wr)
    case atStart => exact ⟨rfl, rfl⟩
    case round =>
      obtain ⟨rfl, rfl⟩ := hrel
      go_wp2_with fail
      go_end0
      exact ⟨rfl, rfl⟩
set_option maxRecDepth 100000 in
set_option maxHeartbeats 1000000 in
theorem sortNil_any (F : Value) (w : World) : Calls Tryd.prog 28 #[.slice none 0 0, F] w fun e w' => e = .returned (.tuple #[]) ∧ w = w' := by
  have HI := Lib.hid (fun w => stabNil_any F w)
  go_enter Tryd.func28, Tryd.ntmps28
  go_wp2_with fail
  refine (HI.out _).mono ?_
  rintro e w' ⟨rfl, rfl⟩
  go_wp2_with fail
  go_end0
  exact ⟨rfl, rfl⟩
/-- m is ks in order, equals as they stood -/
def StSorted (ks m : List KV) : Prop := ∃ d' : Array (KV × Nat), d'.size = ks.length ∧ PermIn 0 ks.length (tagV ks) d' ∧ St (ltOf cKV) 0 ks.length d' ∧ m = d'.toList.map (·.1)
theorem StSorted.len {ks m : List KV} (h : StSorted ks m) : m.length = ks.length := by
  obtain ⟨d, h1, _, _, rfl⟩ := h; simp [h1]
theorem StSorted.perm {ks m : List KV} (h : StSorted ks m) : m.Perm ks := by
  obtain ⟨d, h1, h2, _, rfl⟩ := h
  have h3 := h2.2.2
  have e1 : (d.extract 0 ks.length).toList = d.toList := by rw [← h1]; simp
  have e2 : ((tagV ks).extract 0 ks.length).toList = (tagV ks).toList := by rw [← tagV_size ks]; simp
  rw [e1, e2] at h3
  have h4 := h3.map (·.1)
  rw [show (tagV ks).toList.map (·.1) = ks by simp [tagV]] at h4
  exact h4
theorem sortV_any (base g n cap : Nat) (ks : List KV) (w : World) (h : OwnK w base (.slice (some ⟨g, 0, none⟩) n cap) ks) (hn : ks.length = n) (hbd : n ≤ 1000) :
    Calls Tryd.prog 28 #[.slice (some ⟨g, 0, none⟩) n cap, .func (.func 27) #[] #[]] w fun e w' => e = .returned (.tuple #[]) ∧ ∃ m, StSorted ks m ∧ KvIn w' g m ∧ Below base w w' := by
  obtain ⟨hk, hb, cur, hg, hc⟩ := h.kv hn
  have R := rowV hk hg
  have C := StkSortStable encV cKV cKV_swo 27 g 0 cap (tagV ks) w byKey_enters (fun x => ⟨x.1.1, x.1.2, rfl⟩) (fun m os dk hdk x y => byKey_any x.1 y.1 _) R (by rw [tagV_size]; omega) (fun k hk => by rw [tagV_get ks k (by rwa [tagV_size] at hk)])
  rw [tagV_size, hn] at C
  refine C.mono ?_
  rintro e w' ⟨he, d', h1, h2, h3, hS⟩
  refine ⟨he, _, ⟨d', by rw [h1, hn], by rw [hn]; exact h2, by rw [hn]; exact h3, rfl⟩, kv_swk hS R (by rw [h1, tagV_size, hn]), below_swk hS hb hk.lt⟩
theorem infoStr3 : (Tryd.prog.info? 9).map (fun i => (i.zero, i.size, i.bytes)) = some (some (.string ⟨#[]⟩), 1, 16) := by kernel_rfl
def OwnS (w : World) (base : Nat) (v : Value) (l : List ByteArray) : Prop := w.ownsRow base 9 1 v l.length (l.map Value.string)
theorem OwnS.below {w w' : World} {base : Nat} {v : Value} {l : List ByteArray} (h : OwnS w base v l) (hb : Below w.heap.size w w') : OwnS w' base v l := own_belowG h hb
theorem OwnS.base {w : World} {b b' : Nat} {v : Value} {l : List ByteArray} (h : OwnS w b v l) (hb : b' ≤ b) : OwnS w b' v l := by
  obtain ⟨hl, h1 | ⟨g, cap, cur, e, hbg, rest⟩⟩ := h
  · exact ⟨hl, .inl h1⟩
  · exact ⟨hl, .inr ⟨g, cap, cur, e, Nat.le_trans hb hbg, rest⟩⟩
theorem OwnS.nil (w : World) (base : Nat) : OwnS w base (.slice none 0 0) [] := World.ownsRow_nil w base _ _
/-- append(own, x) -/
theorem wpList_append_sv {w : World} {ops : Array Oper} {rest : List Oper} {o : Oper} {a : Act} {Q : Exit → Act → World → Prop} (hgd : o.guard = none) (s x : Operand)
    (ho : o.op = .call { callee := .builtin .append, args := #[s, x], argTypes := #[25, 25] }) (base : Nat) (v : Value) (l : List ByteArray) (n : Nat) (hn : n = l.length) (hs : a.eval s = v) (hown : OwnS w base v l)
    (g : Nat) (y : ByteArray) (hx : a.eval x = .slice (some ⟨g, 0, none⟩) 1 1) (hy : w.heap[g]? = some (.cells #[.string y] 9 (0, 0))) (hlen : n ≤ 1000000) (hbase : base ≤ w.heap.size)
    (h : ∀ sp cap w', Hid (OwnS w' base (.slice sp (n + 1) cap) (l ++ [y])) → Hid (Below base w w') → Hid (w.grownBy w' v.ownBlock) → wpList Tryd.prog ops Q rest (a.put o.dst (.slice sp (n + 1) cap)) w') : wpList Tryd.prog ops Q (o :: rest) a w := by
  subst hn
  obtain ⟨i0, hi0, hz0, hz1, hz2⟩ := info_parts infoStr3
  refine wpList_append_own w hgd s x _ ho base _ i0 _ 1 16 Tryd.underlying25 hi0 hz0 hz1 hz2 rfl (by decide) v l.length _ hs hown ⟨g, 0, none⟩ 1 1 [.string y] hx rfl ?_ (by intro u hu; rw [List.mem_singleton.1 hu]; rfl) (by unfold maxLen; omega) (by omega) hbase ?_
  · intro j u hj
    rw [Addr.add_mid, cell_of_row w g (0 + j) _ _ _ hy, Nat.zero_add]
    simpa using hj
  · intro v' w' h1 h2 _
    obtain ⟨sp, cap, rfl⟩ := own_shapeG h1
    exact h sp cap w' (show OwnS _ _ _ _ by unfold OwnS; rw [List.length_append, List.map_append]; simpa using h1) ((Below.refl base w).grown h2 hbase (own_baseG hown)) h2
def SrtP (s : Int) (l : List ByteArray) (w : World) (e : Ending) (w' : World) : Prop :=
  ∃ sp n cap, e = .returned (.tuple #[.slice sp n cap, .int .i64 (errW s l)]) ∧ (errW s l = 0 → ∃ m, StSorted (kvs s l) m ∧ n = l.length ∧ OwnS w' w.heap.size (.slice sp n cap) (m.map (·.1))) ∧ (errW s l ≠ 0 → sp = none ∧ n = 0 ∧ cap = 0) ∧ Below w.heap.size w w'
theorem kvs_len (s : Int) (l : List ByteArray) : (kvs s l).length = l.length := by simp [kvs]
theorem StSorted.nil : StSorted [] [] := ⟨#[], rfl, permIn_refl _ _ _, fun i j _ h2 h3 => by simp at h3, rfl⟩
set_option maxRecDepth 100000 in
set_option maxHeartbeats 2000000 in
theorem sort_any (s : Int) (sp : Option Addr) (n cap : Nat) (l : List ByteArray) (w : World) (hl : StrR w sp n l) (hn : n ≤ 1000) :
    Calls Tryd.prog 16 #[.int .i64 s, .slice sp n cap] w (SrtP s l w) := by
  have HWK := Lib.hid (withKeys_any s sp n cap l w hl hn)
  have HLN := Lib.hid hl.len
  clear hl
  obtain ⟨er, her⟩ : ∃ er, errW s l = er := ⟨_, rfl⟩
  have HER := Lib.hid her
  have hr : er = 0 ∨ er = 1 ∨ er = 14 := by
    rw [← her]; unfold errW; split
    · split
      · exact .inl rfl
      · exact .inr (.inl rfl)
    · exact .inr (.inr rfl)
  clear her
  rcases hr with rfl | rfl | rfl
  · obtain ⟨i0, hi0, hz0, hz1, hz2⟩ := info_parts infoStr3
    have HI0 := Lib.hid hi0; have HZ0 := Lib.hid hz0; have HZ1 := Lib.hid hz1; have HZ2 := Lib.hid hz2
    clear hi0 hz0 hz1 hz2
    have main : ∀ (sp1 : Option Addr) (c1 : Nat) (w1 : World), OwnK w1 w.heap.size (.slice sp1 n c1) (kvs s l) → Below w.heap.size w w1 →
        Calls Tryd.prog 28 #[.slice sp1 n c1, .func (.func 27) #[] #[]] w1 fun e w' => e = .returned (.tuple #[]) ∧ ∃ m, StSorted (kvs s l) m ∧ (0 < n → ∃ g, sp1 = some ⟨g, 0, none⟩ ∧ KvIn w' g m) ∧ Below w.heap.size w w' := by
      intro sp1 c1 w1 ho hb
      have ho' := ho
      obtain ⟨_, ⟨e, h0⟩ | ⟨g, cap', cur, e, _⟩⟩ := ho
      · injection e with e1 e2 e3
        subst e1 e2 e3
        have e4 : kvs s l = [] := List.eq_nil_of_length_eq_zero h0
        refine (sortNil_any _ w1).mono ?_
        rintro e w' ⟨he, rfl⟩
        exact ⟨he, [], by rw [e4]; exact StSorted.nil, fun h => absurd h (by omega), hb⟩
      · injection e with e1 e2 e3
        subst e1
        refine (sortV_any w.heap.size g n c1 (kvs s l) w1 ho' (by rw [kvs_len, HLN.out]) hn).mono ?_
        rintro e w' ⟨he, m, h1, h2, h3⟩
        exact ⟨he, m, h1, fun _ => ⟨g, rfl, h2⟩, hb.trans h3⟩
    have MAIN := Lib.hid main
    clear main
    go_enter Tryd.func16, Tryd.ntmps16
    go_wp2_with fail
    refine HWK.out.mono ?_
    rintro e w1 ⟨sp1, n1, c1, he, h1, _, b1⟩
    rw [HER.out] at he h1
    have h3 := h1 rfl
    clear h1
    obtain ⟨h1, h2⟩ := h3
    rw [HLN.out] at h1
    subst he h1
    have HS := Lib.hid (MAIN.out sp1 c1 w1 h2 b1)
    clear h2 b1
    go_wp2_with fail
    refine HS.out.mono ?_
    rintro e w2 ⟨rfl, m, hm1, hm2, hm3⟩
    have HM := Lib.hid hm1; have HKV := Lib.hid hm2; have HB2 := Lib.hid hm3
    clear hm1 hm2 hm3
    go_wp2_with (refine wpList_make_own w2 rfl _ _ 25 rfl w2.heap.size 9 i0 _ 1 Tryd.underlying25 HI0.out HZ0.out HZ1.out _ _ _ n1 rfl rfl rfl (by rw [HZ2.out]; omega) (by unfold maxLen; omega) (Nat.le_refl _) ?_; intro w3 h1 h2; have HO3 := Lib.hid h1; have HG3 := Lib.hid h2; clear h1 h2)
    have HB3 := Lib.hid ((Below.refl w2.heap.size w2).grown HG3.out (Nat.le_refl _) (fun k hk => by cases hk))
    go_loopw [8, 27] (fun v i wr => ∃ (k c : Nat) (g : Option Addr), i = .int .i64 k ∧ v = .slice g k c ∧ k ≤ n1 ∧ Hid (OwnS wr w2.heap.size (.slice g k c) ((m.take k).map (·.1)) ∧ Below w2.heap.size w2 wr)) (fun _ i _ => n1 - (intOf i).toNat)
    case atStart => exact ⟨0, n1, some ⟨w2.heap.size, 0, none⟩, rfl, rfl, Nat.zero_le _, (show OwnS _ _ _ _ by exact HO3.out), HB3.out⟩
    case round =>
      clear HO3 HG3 HB3 HS
      obtain ⟨k, c, gv, rfl, rfl, hk, H⟩ := hrel
      have HO := Lib.hid H.out.1; have HB := Lib.hid H.out.2
      clear H
      have HML := Lib.hid (show m.length = n1 by rw [HM.out.len, kvs_len, HLN.out])
      by_cases hlt : k < n1
      · have hd : decide ((k : Int) < (n1 : Int)) = true := by simp; omega
        obtain ⟨g, rfl, hkv⟩ := HKV.out (by omega)
        obtain ⟨u, hu⟩ : ∃ u, m[k]? = some u := ⟨m[k]'(by have := HML.out; omega), List.getElem?_eq_getElem _⟩
        have hkv := hkv.below HB.out hkv.lt
        have hc1 : wr.cell? ⟨g, k * 2, none⟩ = some (.string u.1) := hkv.a k u hu
        have hc2 : wr.cell? ⟨g, k * 2 + 1, none⟩ = some (.string u.2) := hkv.b k u hu
        have HTK := Lib.hid (show m.take (k + 1) = m.take k ++ [u] by rw [List.take_add_one, hu]; rfl)
        have HLK := Lib.hid (show k = ((m.take k).map (·.1)).length by rw [List.length_map, List.length_take]; have := HML.out; omega)
        have p0 : (0 : Int) ≤ (k : Int) := by omega
        have p1 : (k : Int) < (n1 : Int) := by omega
        obtain ⟨ua, ub⟩ := u
        dsimp only at hc1 hc2
        have HY := Lib.hid (show ((wr.alloc (.cells #[.string ua, .string ub] 58)).alloc (.cells #[.string ua] 9)).heap[wr.heap.size + 1]? = some (.cells #[.string ua] 9 (0, 0)) by have := heap_alloc_new (wr.alloc (.cells #[.string ua, .string ub] 58)) (.cells #[.string ua] 9); rwa [World.size_alloc] at this)
        clear hkv hu
        go_wp2_with (at_builtin; refine wpList_append_sv rfl (.tmp 31) (.tmp 34) rfl w2.heap.size _ ((m.take k).map (·.1)) k HLK.out rfl (HO.out.below (((Below.refl _ _).alloc (Nat.le_refl _) _).alloc (by simp) _)) (wr.heap.size + 1) ua rfl HY.out (by omega) (Nat.le_trans HB.out.size (by simp; omega)) ?_; intro g' c' w4 HO4 HB4 HG4)
        have HB5 := Lib.hid (((HB.out.trans ((Below.refl _ _).alloc HB.out.size _)).trans ((Below.refl _ _).alloc (Nat.le_trans HB.out.size (by simp)) _)).trans HB4.out)
        go_roundw
        case rel =>
          refine ⟨k + 1, c', g', by go_num, rfl, by omega, ?_, HB5.out⟩
          rw [HTK.out, List.map_append]; exact HO4.out
        case measure => simp [intOf]; omega
      · obtain rfl : k = n1 := by omega
        have hd : decide ((k : Int) < (k : Int)) = false := by simp
        have HTK := Lib.hid (show m.take k = m from List.take_of_length_le (by have := HML.out; omega))
        have HLE := Lib.hid HLN.out
        clear hlt
        go_wp2_with fail
        go_ret2
        refine ⟨gv, k, c, by rw [HER.out]; rfl, fun _ => ⟨m, HM.out, HLE.out.symm, ?_⟩, fun h => absurd HER.out h, HB2.out.trans (HB.out.mono HB2.out.size)⟩
        have := HO.out; rw [HTK.out] at this
        exact this.base HB2.out.size
  · go_enter Tryd.func16, Tryd.ntmps16
    go_wp2_with fail
    refine HWK.out.mono ?_
    rintro e w1 ⟨sp1, n1, c1, he, _, h2, b1⟩
    rw [HER.out] at he h2
    subst he
    have B1 := Lib.hid b1; clear b1 h2
    go_wp2_with fail
    go_ret2
    exact ⟨none, 0, 0, by rw [HER.out]; rfl, fun h => absurd (HER.out.symm.trans h) (by decide), fun _ => ⟨rfl, rfl, rfl⟩, B1.out⟩
  · go_enter Tryd.func16, Tryd.ntmps16
    go_wp2_with fail
    refine HWK.out.mono ?_
    rintro e w1 ⟨sp1, n1, c1, he, _, h2, b1⟩
    rw [HER.out] at he h2
    subst he
    have B1 := Lib.hid b1; clear b1 h2
    go_wp2_with fail
    go_ret2
    exact ⟨none, 0, 0, by rw [HER.out]; rfl, fun h => absurd (HER.out.symm.trans h) (by decide), fun _ => ⟨rfl, rfl, rfl⟩, B1.out⟩
theorem OwnS.r {w : World} {base n cap : Nat} {sp : Option Addr} {l : List ByteArray} (h : OwnS w base (.slice sp n cap) l) (hn : l.length = n) : StrR w sp n l := by
  refine ⟨hn, fun hp => ?_⟩
  have h1 := h
  obtain ⟨_, ⟨e, h0⟩ | ⟨g, cap', cur, e, _⟩⟩ := h1
  · omega
  · injection e with e1 e2 e3
    subst e1
    have h2 : w.ownsRow base 9 1 (.slice (some ⟨g, 0, none⟩) n cap) l.length (l.flatMap fun x => [Value.string x]) := by
      rw [← List.map_eq_flatMap]; exact h
    obtain ⟨hlt, _, hr⟩ := own_rangeG h2 (fun _ _ => rfl) hn
    refine ⟨g, 0, rfl, hlt, fun i v hi => ?_⟩
    have h3 := hr i v hi 0 _ rfl
    rw [Nat.mul_one] at h3
    exact h3
theorem cKV_swap (x y : KV) : cKV y x = - cKV x y := by unfold cKV; exact lx_swap _ _
end Go.Proofs.YtceeilojcifgeaaDoor
