/-
  Keys of many one-time keys: rows of strings of the call's own, and the walk of the reference's Words (conditions: the lists of the signature read as halves; the leaf is an int).
-/
import Derived.Test.YtbfgkbcpkldofaaDoorKeyRe
import Derived.Test.YtbfgkbcpkldofaaDoorGx
import Derived.Test.YtbfgkbcpkldofaaDoorGz
import Derived.Test.YtbfgkbcpkldofaaDoorDocM
namespace Go.Proofs.YtbfgkbcpkldofaaDoor
open Go.RowKit Go.Proofs.YtbfgkbcpkldofaaDoor.One

theorem infoStrW : (Tryd.prog.info? 9).map (fun i => (i.zero, i.size, i.bytes)) = some (some (.string ⟨#[]⟩), 1, 16) := by kernel_rfl
/-- a row of strings of the call's own -/
def OwnW (w : World) (base : Nat) (v : Value) (l : List ByteArray) : Prop := w.ownsRow base 9 1 v l.length (l.map Value.string)
theorem OwnW.below {w w' : World} {base : Nat} {v : Value} {l : List ByteArray} (h : OwnW w base v l) (hb : Below w.heap.size w w') : OwnW w' base v l := own_belowG h hb
theorem OwnW.base {w : World} {b b' : Nat} {v : Value} {l : List ByteArray} (h : OwnW w b v l) (hb : b' ≤ b) : OwnW w b' v l := by
  obtain ⟨hl, h1 | ⟨g, cap, cur, e, hbg, rest⟩⟩ := h
  · exact ⟨hl, .inl h1⟩
  · exact ⟨hl, .inr ⟨g, cap, cur, e, Nat.le_trans hb hbg, rest⟩⟩
theorem OwnW.strs {w : World} {base : Nat} {sp : Option Addr} {n cap : Nat} {l : List ByteArray} (h : OwnW w base (.slice sp n cap) l) (hn : l.length = n) : StrsIn w w.heap.size sp n l := by
  refine ⟨hn, fun h0 => ?_⟩
  obtain ⟨hl, ⟨e, e0⟩ | ⟨g, cap', cur, e, hb, hg, hc, hm, hs, ht⟩⟩ := h
  · omega
  · injection e with e1 e2 e3
    refine ⟨g, 0, e1, (Array.getElem?_eq_some_iff.1 hg).1, fun j hj => ?_⟩
    rw [cell_of_row w g (0 + j) _ _ _ hg, Nat.zero_add]
    have h6 : (l.map Value.string)[j]? = some (.string l[j]) := by rw [List.getElem?_map, List.getElem?_eq_getElem hj]; rfl
    rw [← ht, List.getElem?_take, if_pos (by omega)] at h6
    simpa using h6
/-- append(own, x) -/
theorem wpList_append_sw {w : World} {ops : Array Oper} {rest : List Oper} {o : Oper} {a : Act} {Q : Exit → Act → World → Prop} (hgd : o.guard = none) (s x : Operand)
    (ho : o.op = .call { callee := .builtin .append, args := #[s, x], argTypes := #[43, 43] }) (base : Nat) (v : Value) (l : List ByteArray) (n : Nat) (hn : n = l.length) (hs : a.eval s = v) (hown : OwnW w base v l)
    (g : Nat) (y : ByteArray) (hx : a.eval x = .slice (some ⟨g, 0, none⟩) 1 1) (hy : w.heap[g]? = some (.cells #[.string y] 9 (0, 0))) (hlen : n ≤ 1000000) (hbase : base ≤ w.heap.size)
    (h : ∀ sp cap w', Hid (OwnW w' base (.slice sp (n + 1) cap) (l ++ [y])) → Hid (Below base w w') → Hid (w.grownBy w' v.ownBlock) → wpList Tryd.prog ops Q rest (a.put o.dst (.slice sp (n + 1) cap)) w') : wpList Tryd.prog ops Q (o :: rest) a w := by
  subst hn
  obtain ⟨i0, hi0, hz0, hz1, hz2⟩ := info_parts infoStrW
  refine wpList_append_own w hgd s x _ ho base _ i0 _ 1 16 Tryd.underlying43 hi0 hz0 hz1 hz2 rfl (by decide) v l.length _ hs hown ⟨g, 0, none⟩ 1 1 [.string y] hx rfl ?_ (by intro u hu; rw [List.mem_singleton.1 hu]; rfl) (by unfold maxLen; omega) (by omega) hbase ?_
  · intro j u hj
    rw [Addr.add_mid, cell_of_row w g (0 + j) _ _ _ hy, Nat.zero_add]
    simpa using hj
  · intro v' w' h1 h2 _
    obtain ⟨sp, cap, rfl⟩ := own_shapeG h1
    exact h sp cap w' (show OwnW _ _ _ _ by unfold OwnW; rw [List.length_append, List.map_append]; simpa using h1) ((Below.refl base w).grown h2 hbase (own_baseG hown)) h2
/-- a half as text -/
def fmtH (x : List Int) : ByteArray := ⟨(hexB x).toArray⟩
def numS (l : Int) : ByteArray := ⟨(Lib.itoa l).toArray⟩
/-- the words of a signature -/
def wordsB (l : Int) (cl pl : List (List Int)) : List ByteArray := [numS l] ++ cl.map fmtH ++ pl.map fmtH
/-- a signature that was just boxed -/
structure SxBox (w : World) (l : Int) (c p : Value) (w0 : World) : Prop where
  s : w0.heap[w.heap.size]? = some (.cells (siA l c p) 37 (0, 0))
  b : Below w.heap.size w w0
  k : w0.heap.size = w.heap.size + 1
theorem SxBox.new (w : World) (l : Int) (c p : Value) : SxBox w l c p (w.alloc (.cells (siA l c p) 37)) := ⟨heap_alloc_new w _, below_alloc _ _, alloc_size _ _⟩
theorem take_snoc {l : List (List Int)} {k : Nat} (hk : k < l.length) : (l.take (k + 1)).map fmtH = (l.take k).map fmtH ++ [fmtH (l.getD k [])] := by
  rw [List.take_add_one, List.map_append, List.getElem?_eq_getElem hk, List.getD_eq_getElem?_getD, List.getElem?_eq_getElem hk]; rfl
set_option maxRecDepth 100000 in
set_option maxHeartbeats 2000000 in
theorem rwords_any (l : Int) (sp1 : Option Addr) (n c1 : Nat) (cl : List (List Int)) (sp2 : Option Addr) (m c2 : Nat) (pl : List (List Int)) (w : World) (h0 : -9223372036854775808 ≤ l) (h1 : l ≤ 9223372036854775807) (hc : HvsIn w w.heap.size sp1 n c1 cl) (hp : HvsIn w w.heap.size sp2 m c2 pl) (hn : n ≤ 1000) (hm : m ≤ 1000) :
    Calls Tryd.prog 13 #[.agg (siA l (.slice sp1 n c1) (.slice sp2 m c2))] w fun e w' => ∃ sp cap, e = .returned (.slice sp (1 + n + m) cap) ∧ OwnW w' w.heap.size (.slice sp (1 + n + m) cap) (wordsB l cl pl) ∧ Below w.heap.size w w' := by
  have HCL := Lib.hid hc; have HPL := Lib.hid hp
  clear hc hp
  have HT := Lib.hid (SxBox.new w l (.slice sp1 n c1) (.slice sp2 m c2))
  have HCN := Lib.hid (fun w' => refNumber_any l h0 h1 w')
  clear h0 h1
  go_enter Tryd.func13, Tryd.ntmps13
  go_upto_region 1 with (fail)
  generalize hw0 : World.alloc w _ = w0
  have HT0 : Hid (SxBox w l (.slice sp1 n c1) (.slice sp2 m c2) w0) := by rw [← hw0]; exact HT.out
  clear hw0 HT
  have hs0 : w.heap.size + 1 ≤ w0.heap.size := Nat.le_of_eq HT0.out.k.symm
  have k2 := si_l HT0.out.s
  go_wp2_with fail
  clear k2
  refine (HCN.out _).mono ?_
  rintro e w1 ⟨rfl, hb1⟩
  have HB1 : Hid (Below (w.heap.size + 1) w0 w1) := hb1.mono hs0
  have hs1 : w0.heap.size ≤ w1.heap.size := hb1.size
  clear hb1 HCN
  have HSL : Hid (OwnW (w1.alloc (.cells #[.string (numS l)] 9)) w1.heap.size (.slice (some ⟨w1.heap.size, 0, none⟩) 1 1) [numS l]) := World.ownsRow_lit w1 #[.string (numS l)] 1 (Nat.le_refl _) (by unfold maxLen; omega) rfl
  have HSB := Lib.hid (below_alloc w1 (.cells #[.string (numS l)] 9))
  go_wp2_with fail
  generalize hw2 : World.alloc w1 _ = w2
  have HO2 : Hid (OwnW w2 (w.heap.size + 1) (.slice (some ⟨w1.heap.size, 0, none⟩) 1 1) [numS l]) := (by rw [← hw2]; exact OwnW.base HSL.out (by omega))
  have HB2 : Hid (Below w1.heap.size w1 w2) := (by rw [← hw2]; exact HSB.out)
  clear hw2 HSL HSB
  go_loopw [3, 4] (fun v i wr => ∃ k : Nat, k ≤ n ∧ i = .int .i64 (k : Int) ∧ Hid (OwnW wr (w.heap.size + 1) v ([numS l] ++ (cl.take k).map fmtH)) ∧ Hid (Below (w.heap.size + 1) w0 wr)) (fun _ i _ => n - (intOf i).toNat)
  case atStart => exact ⟨0, by omega, rfl, (show OwnW w2 (w.heap.size + 1) _ _ from by simpa using HO2.out), Below.trans HB1.out (Below.trans (HB2.out.mono (by omega)) (Below.refl _ _))⟩
  case round =>
    obtain ⟨k, hk, rfl, HOW, HBR⟩ := hrel
    have hszr : w.heap.size + 1 ≤ wr.heap.size := by have := HBR.out.size; omega
    have HSr : Hid (wr.heap[w.heap.size]? = some (.cells (siA l (.slice sp1 n c1) (.slice sp2 m c2)) 37 (0, 0))) := (HBR.out.block _ (by omega)).trans HT0.out.s
    have kf := si_c HSr.out
    have HLv : Hid (HvsIn wr w.heap.size sp1 n c1 cl) := HCL.out.below (HT0.out.b.trans (HBR.out.mono (by omega))) (Nat.le_refl _)
    by_cases hlt : k < n
    · have hd1 : decide ((k : Int) < (n : Int)) = true := by simp; omega
      have p1 : (0 : Int) ≤ (k : Int) := by omega
      have p2 : (k : Int) < (n : Int) := by omega
      obtain ⟨sb, so, hsp, hsb, hcc, hrr⟩ := HLv.out.cells (by omega)
      have HYR : Hid (wr.rangeAt sb (so + k * 16) ((cl.getD k []).map (Value.int .u8))) := hrr k hlt
      have HY16 := Lib.hid (HLv.out.at16 hlt)
      have p3 : (n : Int) ≤ (c1 : Int) := by omega
      have HSN := Lib.hid (take_snoc (l := cl) (k := k) (by rw [HLv.out.len]; exact hlt))
      have HLK : Hid (1 + k = ([numS l] ++ (cl.take k).map fmtH).length) := by show _ = _; have := HLv.out.len; have := HCL.out.len; simp [List.length_take]; omega
      rw [hsp] at kf
      clear hrr hsp
      generalize cl.getD k [] = y at *
      have HIY := Lib.hid (info_h2' HY16.out)
      have HCF := Lib.hid (fun w' => refFormatHalf_any y w' HY16.out.1 HY16.out.2)
      go_wp2_with (refine wpList_load_mid rfl 23 _ rfl sb (so + k * 16) rfl _ _ HYR.out Tryd.underlying23 rfl HIY.out ?_)
      clear kf
      refine (HCF.out _).mono ?_
      rintro e w6 ⟨rfl, hb6⟩
      have HB6 := Lib.hid hb6
      have HO6 := Lib.hid (HOW.out.below hb6)
      have hs6 : w.heap.size + 1 ≤ w6.heap.size := by have := hb6.size; omega
      clear hb6
      have HSL := Lib.hid (heap_alloc_new w6 (.cells #[.string (fmtH y)] 9))
      have HSB := Lib.hid (below_alloc w6 (.cells #[.string (fmtH y)] 9))
      go_wp2_with (at_builtin; generalize hw7 : World.alloc w6 _ = w7; have HS7 : Hid (w7.heap[w6.heap.size]? = some (.cells #[.string (fmtH y)] 9 (0, 0))) := (by rw [← hw7]; exact HSL.out); have HB7 : Hid (Below w6.heap.size w6 w7) := (by rw [← hw7]; exact HSB.out); have hs7 : w.heap.size + 1 ≤ w7.heap.size := (by have := HB7.out.size; omega); have HO7 := Lib.hid (HO6.out.below HB7.out); clear hw7 HSL HSB; refine wpList_append_sw rfl (.tmp 17) (.tmp 24) rfl (w.heap.size + 1) _ _ (1 + k) HLK.out rfl HO7.out w6.heap.size (fmtH y) rfl HS7.out (by omega) hs7 ?_; intro sp8 cap8 w8 HO8 HB8 HG8)
      go_roundw
      case rel => exact ⟨k + 1, by omega, by go_num, by rw [HSN.out, ← List.append_assoc]; exact HO8, HBR.out.trans ((HB6.out.mono (by omega)).trans ((HB7.out.mono (by omega)).trans HB8.out))⟩
      case measure => simp [intOf]; omega
    · obtain rfl : n = k := by omega
      have hd1 : decide ((n : Int) < (n : Int)) = false := by simp
      have HTK : Hid (cl.take n = cl) := List.take_of_length_le (Nat.le_of_eq HLv.out.len)
      rw [HTK.out] at HOW
      have HOX := HOW; have HBX := HBR
      clear HOW HBR HSr HLv HTK hszr
      go_wp2_with fail
      clear hd1 kf
      go_loopw [3, 5] (fun v i wr => ∃ k : Nat, k ≤ m ∧ i = .int .i64 (k : Int) ∧ Hid (OwnW wr (w.heap.size + 1) v (([numS l] ++ cl.map fmtH) ++ (pl.take k).map fmtH)) ∧ Hid (Below (w.heap.size + 1) w0 wr)) (fun _ i _ => m - (intOf i).toNat)
      case atStart => exact ⟨0, by omega, rfl, (show OwnW _ (w.heap.size + 1) _ _ from by simpa using HOX.out), HBX.out⟩
      case round =>
        obtain ⟨k, hk, rfl, HOW, HBR⟩ := hrel
        have hszr : w.heap.size + 1 ≤ wr.heap.size := by have := HBR.out.size; omega
        have HSr : Hid (wr.heap[w.heap.size]? = some (.cells (siA l (.slice sp1 n c1) (.slice sp2 m c2)) 37 (0, 0))) := (HBR.out.block _ (by omega)).trans HT0.out.s
        have kf := si_p HSr.out
        have HLv : Hid (HvsIn wr w.heap.size sp2 m c2 pl) := HPL.out.below (HT0.out.b.trans (HBR.out.mono (by omega))) (Nat.le_refl _)
        by_cases hlt : k < m
        · have hd1 : decide ((k : Int) < (m : Int)) = true := by simp; omega
          have p1 : (0 : Int) ≤ (k : Int) := by omega
          have p2 : (k : Int) < (m : Int) := by omega
          obtain ⟨sb, so, hsp, hsb, hcc, hrr⟩ := HLv.out.cells (by omega)
          have HYR : Hid (wr.rangeAt sb (so + k * 16) ((pl.getD k []).map (Value.int .u8))) := hrr k hlt
          have HY16 := Lib.hid (HLv.out.at16 hlt)
          have p3 : (m : Int) ≤ (c2 : Int) := by omega
          have HSN := Lib.hid (take_snoc (l := pl) (k := k) (by rw [HLv.out.len]; exact hlt))
          have HLK : Hid ((1 + n) + k = (([numS l] ++ cl.map fmtH) ++ (pl.take k).map fmtH).length) := by show _ = _; have := HLv.out.len; have := HCL.out.len; simp [List.length_take]; omega
          rw [hsp] at kf
          clear hrr hsp
          generalize pl.getD k [] = y at *
          have HIY := Lib.hid (info_h2' HY16.out)
          have HCF := Lib.hid (fun w' => refFormatHalf_any y w' HY16.out.1 HY16.out.2)
          go_wp2_with (refine wpList_load_mid rfl 23 _ rfl sb (so + k * 16) rfl _ _ HYR.out Tryd.underlying23 rfl HIY.out ?_)
          clear kf
          refine (HCF.out _).mono ?_
          rintro e w6 ⟨rfl, hb6⟩
          have HB6 := Lib.hid hb6
          have HO6 := Lib.hid (HOW.out.below hb6)
          have hs6 : w.heap.size + 1 ≤ w6.heap.size := by have := hb6.size; omega
          clear hb6
          have HSL := Lib.hid (heap_alloc_new w6 (.cells #[.string (fmtH y)] 9))
          have HSB := Lib.hid (below_alloc w6 (.cells #[.string (fmtH y)] 9))
          go_wp2_with (at_builtin; generalize hw7 : World.alloc w6 _ = w7; have HS7 : Hid (w7.heap[w6.heap.size]? = some (.cells #[.string (fmtH y)] 9 (0, 0))) := (by rw [← hw7]; exact HSL.out); have HB7 : Hid (Below w6.heap.size w6 w7) := (by rw [← hw7]; exact HSB.out); have hs7 : w.heap.size + 1 ≤ w7.heap.size := (by have := HB7.out.size; omega); have HO7 := Lib.hid (HO6.out.below HB7.out); clear hw7 HSL HSB; refine wpList_append_sw rfl (.tmp 33) (.tmp 40) rfl (w.heap.size + 1) _ _ ((1 + n) + k) HLK.out rfl HO7.out w6.heap.size (fmtH y) rfl HS7.out (by omega) hs7 ?_; intro sp8 cap8 w8 HO8 HB8 HG8)
          go_roundw
          case rel => exact ⟨k + 1, by omega, by go_num, by rw [HSN.out, ← List.append_assoc]; exact HO8, HBR.out.trans ((HB6.out.mono (by omega)).trans ((HB7.out.mono (by omega)).trans HB8.out))⟩
          case measure => simp [intOf]; omega
        · obtain rfl : m = k := by omega
          have hd1 : decide ((m : Int) < (m : Int)) = false := by simp
          have HTK : Hid (pl.take m = pl) := List.take_of_length_le (Nat.le_of_eq HLv.out.len)
          rw [HTK.out] at HOW
          have HLE : ([numS l] ++ cl.map fmtH ++ pl.map fmtH).length = 1 + n + m := by have := HLv.out.len; have := HCL.out.len; simp; omega
          obtain ⟨sp', cap', rfl⟩ := own_shapeG HOW.out
          have how := HOW.out
          rw [HLE] at how ⊢
          have HOW2 := Lib.hid how
          clear how HOW HLE
          go_wp2_with fail
          go_ret
          exact ⟨sp', cap', rfl, HOW2.out.base (Nat.le_succ _), HT0.out.b.trans (HBR.out.mono (by omega))⟩

end Go.Proofs.YtbfgkbcpkldofaaDoor
