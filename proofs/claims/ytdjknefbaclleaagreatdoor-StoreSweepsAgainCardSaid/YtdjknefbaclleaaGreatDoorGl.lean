/-
  The walk of store.Links (conditions: its words are at most 1000000, each a string that memory bears; the table of constants is not read).
-/
import Derived.Test.YtdjknefbaclleaaGreatDoorGi
import Derived.Test.YtdjknefbaclleaaGreatDoorGk
import Derived.Test.YtdjknefbaclleaaGreatDoorGg
import Derived.Test.YtdjknefbaclleaaGreatDoorGd
import Derived.Test.YtdjknefbaclleaaGreatDoorDecF
import Derived.Test.YtdjknefbaclleaaGreatDoorGe
namespace Go.Proofs.YtdjknefbaclleaaGreatDoor
open Go.RowKit

theorem wpList_seen0 {w : World} {ops : Array Oper} {rest : List Oper} {o : Oper} {a : Act} {Q : Exit → Act → World → Prop} (hgd : o.guard = none) (m x v : Operand) (hop : o.op = Op.insert 62 m x v) (b n : Nat) (f : List Int → Bool) (hs : SeenIn w b n f) (hn : n < 1000000000000)
    (d : List Int) (hd : D32 d) (hm : a.eval m = .map (some b)) (hx : a.eval x = .agg (d.map (Value.int .u8)).toArray) (hv : a.eval v = .bool true)
    (h : ∀ w', Hid (SeenIn w' b (n + 1) (fun x => decide (x = d) || f x)) → w.grownBy w' (some b) → wpList Tryz.prog ops Q rest (a.put o.dst undef) w') : wpList Tryz.prog ops Q (o :: rest) a w := by
  obtain ⟨D, h0, hf⟩ := hs
  obtain ⟨kl, hk⟩ := keyD d hd
  refine wpList_plain hgd fun K' hK' => ?_
  obtain ⟨w', hrun, r1, r2⟩ := h0.update keyedK Tryz.underlying62 (by unfold maxLen; omega) hk (plainElem_bool Tryz.underlying4 true)
  unfold Oper.wp
  simp [execOp, hop, hm, hx, hv, hrun, Result.andThen]
  exact hK' _ _ (h w' (SeenIn.put_of h0 r1 hf hk) r2)
theorem decC_err {S : ByteArray} (h : (decC S).1 ≠ 0) : (decC S).2 = [] := by
  unfold decC at h ⊢
  split
  · rfl
  · cases hr : rdoc S with
    | none => rfl
    | some L =>
      simp only [hr] at h ⊢
      split
      · rename_i h1 h2; rw [if_neg h1] at h; simp [h2] at h
      · rfl
/-- the digests to which some bytes refer -/
def lnkD (S : ByteArray) : List (List Int) := lnk (decC S).2.flatten
def seenF (ws : List ByteArray) (d : List Int) : Bool := decide (d = zed) || decide (d ∈ lnk ws)
theorem hbs_bytR {l : List UInt8} {n : Nat} (h : hok l n = true) : Byt (hbs l n) := fun x hx => by
  unfold hbs at hx
  obtain ⟨i, hi, rfl⟩ := List.mem_map.1 hx
  unfold hok at h
  have := (List.all_eq_true.1 h) i (by simpa using hi)
  unfold hok1 at this
  have h2 : hexv (l.getD (2 * i) 0) < 16 ∧ hexv (l.getD (2 * i + 1) 0) < 16 := by simpa using this
  unfold hby; omega
theorem ppby_ok (s : ByteArray) : D32 (ppby s.data.toList) := by
  unfold ppby
  split
  · rename_i h
    unfold ppok pok at h
    simp only [Bool.and_eq_true] at h
    exact ⟨hbs_length _ _, hbs_bytR h.2.2⟩
  · exact D32.zed
theorem seenF_snoc {ws : List ByteArray} {s : ByteArray} (hok : ppok s.data.toList = true) (hs : seenF ws (ppby s.data.toList) = false) : (fun x => decide (x = ppby s.data.toList) || seenF ws x) = seenF (ws ++ [s]) ∧ lnk (ws ++ [s]) = lnk ws ++ [ppby s.data.toList] := by
  unfold seenF at hs
  rw [Bool.or_eq_false_iff, decide_eq_false_iff_not, decide_eq_false_iff_not] at hs
  have h1 := lnk_add hok hs.1 hs.2
  refine ⟨funext fun x => ?_, h1⟩
  unfold seenF
  rw [h1, Bool.eq_iff_iff]
  simp only [Bool.or_eq_true, decide_eq_true_eq, List.mem_append, List.mem_singleton]
  constructor
  · rintro (h | h | h)
    · exact .inr (.inr h)
    · exact .inl h
    · exact .inr (.inl h)
  · rintro (h | h | h)
    · exact .inr (.inl h)
    · exact .inr (.inr h)
    · exact .inl h
theorem seenF_same {ws : List ByteArray} {s : ByteArray} (h : ppok s.data.toList = false ∨ seenF ws (ppby s.data.toList) = true) : lnk (ws ++ [s]) = lnk ws := by
  rcases h with h | h
  · exact lnk_no h
  · unfold seenF at h
    rw [Bool.or_eq_true, decide_eq_true_eq, decide_eq_true_eq] at h
    rcases h with h | h
    · exact lnk_zero h
    · exact lnk_has h
theorem seenF_nil : seenF [] = fun x => decide (x = zed) || (fun _ => false) x := funext fun x => by unfold seenF; simp [lnk]
theorem grown_stepG {a w w' : World} {b : Nat} {row : Option Nat} (h : a.grownBy w (some b)) (g : w.grownBy w' row) (hr : ∀ k, row = some k → a.heap.size ≤ k ∨ k = b) : a.grownBy w' (some b) :=
  ⟨g.os.trans h.os, g.tape.trans h.tape, g.output.trans h.output, Nat.le_trans h.size g.size, fun k hk hne => (g.block k (Nat.lt_of_lt_of_le hk h.size) (fun e => by
    rcases hr k e.symm with h1 | h1
    · omega
    · exact hne (by rw [h1]))).trans (h.block k hk hne)⟩
theorem grown_belowG {a w w' : World} {b : Nat} (h : a.grownBy w (some b)) (g : Below w.heap.size w w') : a.grownBy w' (some b) :=
  grown_stepG (row := none) h ⟨g.os, g.tape, g.output, g.size, fun k hk _ => g.block k hk⟩ (fun k e => by cases e)
theorem own_lessR {w : World} {b b' e size : Nat} {v : Value} {n : Nat} {xs : List Value} (h : w.ownsRow b e size v n xs) (hb : b' ≤ b) : w.ownsRow b' e size v n xs := by
  obtain ⟨hl, h1 | ⟨g, cap, cur, e, hbg, rest⟩⟩ := h
  · exact ⟨hl, .inl h1⟩
  · exact ⟨hl, .inr ⟨g, cap, cur, e, Nat.le_trans hb hbg, rest⟩⟩
theorem range_grownR {w w' : World} {b o : Nat} {cs : List Value} {row : Nat} (h : w.rangeAt b o cs) (hg : w.grownBy w' (some row)) (hlt : b < w.heap.size) (hne : b ≠ row) : w'.rangeAt b o cs := fun j v hv =>
  (World.cell?_of_block (a := ⟨b, o + j, none⟩) (hg.block b hlt (fun e => hne (Option.some.inj e)))).trans (h j v hv)
theorem own_neR {w : World} {base e size : Nat} {v : Value} {n : Nat} {xs : List Value} {row : Nat} (h : w.ownsRow base e size v n xs) (hlt : row < base) : v.ownBlock = none ∨ v.ownBlock ≠ some row := by
  refine .inr fun e => ?_
  have := own_baseG h row e
  omega
theorem str_rowR {w : World} {base : Nat} {sp : Option Addr} {n cap : Nat} {l : List ByteArray} (h : w.ownsRow base 9 1 (.slice sp n cap) l.length (l.map Value.string)) (hn : n = l.length) {k : Nat} {s : ByteArray} (hs : l[k]? = some s) :
    ∃ g, sp = some ⟨g, 0, none⟩ ∧ base ≤ g ∧ g < w.heap.size ∧ n ≤ cap ∧ w.cell? ⟨g, 0 + k, none⟩ = some (.string s) := by
  have hk := (List.getElem?_eq_some_iff.1 hs).1
  obtain ⟨_, ⟨_, h0⟩ | ⟨g, c, cur, e, hbg, hg, hle, _, hsz, htk⟩⟩ := h
  · omega
  · injection e with e1 e2 e3
    subst e1; subst e3
    refine ⟨g, rfl, hbg, (Array.getElem?_eq_some_iff.1 hg).1, by omega, ?_⟩
    rw [cell_of_row w g (0 + k) cur _ _ hg, Nat.zero_add]
    have h4 : (cur.toList.take (l.length * 1))[k]? = some (.string s) := by rw [htk, List.getElem?_map, hs]; rfl
    rw [List.getElem?_take, if_pos (by omega)] at h4
    simpa using h4
theorem wpList_load_mid_gR {P : Program} {ops : Array Oper} {rest : List Oper} {o : Oper} {a : Act} {w : World} {Q : Exit → Act → World → Prop} (hw : Region.wanted o (yielded ops a.tmps) = true) (ty : TypeId) (x : Operand) (ho : o.op = .load ty x)
    (b k : Nat) (hx : a.eval x = .pointer (some ⟨b, k, none⟩)) (cs : List Value) (d : TypeDesc) (hc : w.rangeAt b k cs)
    (hu : P.underlying ty = some d) (hd : d.isRow = true) (hi : (P.info? ty).map (·.size) = some cs.length)
    (h : wpList P ops Q rest (a.put o.dst (.agg cs.toArray)) w) : wpList P ops Q (o :: rest) a w :=
  wpList_step fun K hK => by rw [if_pos hw]; exact wp_load_mid ty x ho b k hx cs d hc hu hd hi (hK _ _ h)
def ResD (w : World) (l : List (List Int)) (e : Ending) (w' : World) : Prop := ∃ sp m cap, e = .returned (.slice sp m cap) ∧ m = l.length ∧ OwnDg w' w.heap.size (.slice sp m cap) l ∧ Below w.heap.size w w'
set_option maxRecDepth 100000 in
set_option maxHeartbeats 2000000 in
theorem links_any (sp : Option Addr) (n cap : Nat) (l : List UInt8) (w : World) (hs : BSrc w w.heap.size sp n cap l) (hll : (decC ⟨l.toArray⟩).2.length ≤ 1000000) (hc : ((decC ⟨l.toArray⟩).2.flatten).length ≤ 1000000) (hz : ∀ s ∈ (decC ⟨l.toArray⟩).2.flatten, s.size ≤ 9223372036854775807) :
    Calls Tryz.prog 25 #[.slice sp n cap] w (ResD w (lnkD ⟨l.toArray⟩)) := by
  have HDE := Lib.hid (Decode_any sp n cap l w hs)
  obtain ⟨S, hS⟩ : ∃ S : ByteArray, (⟨l.toArray⟩ : ByteArray) = S := ⟨_, rfl⟩
  rw [hS] at HDE hc hz hll ⊢
  have HC := Lib.hid hc; have HZ := Lib.hid hz; have HLLN := Lib.hid hll
  clear hS hs hc hz hll
  obtain ⟨c, hc⟩ : ∃ c, (decC S).1 = c := ⟨_, rfl⟩
  by_cases h0 : c = 0
  · subst h0
    go_enter Tryz.func25, Tryz.ntmps25
    go_wp2_with fail
    refine HDE.out.mono ?_
    rintro e w1 ⟨sd, cd, ls, hls, rfl, hown, heach, hb1⟩
    rw [hc]
    have HLN := Lib.hid (lines_own hown heach)
    have HLS := Lib.hid hls; have HB1 := Lib.hid hb1
    have HNIL : Hid (∀ q ∈ ls, q.sp = none → q.cap = 0) := fun q hq => by
      have h1 := heach q hq
      obtain ⟨_, ⟨e, _⟩ | ⟨g, c, u, e, _⟩⟩ := h1
      · intro _; cases q; cases e; rfl
      · intro h; cases q; cases e; cases h
    clear hown heach hls hb1 HDE
    have hmk := run_makeMap (P := Tryz.prog) 62 w1
    have hbd := buildD
    have HSM := Lib.hid (SeenIn.made w1)
    have hB2 : Below w1.heap.size w1 (w1.alloc (.map #[] 0)) := (Below.refl _ _).alloc (Nat.le_refl _) _
    have HB2 := Lib.hid hB2; clear hB2
    go_wp2_with (refine wpList_seen0 rfl (.tmp 18) (.tmp 19) (.const (.bool true)) rfl w1.heap.size 0 _ HSM.out (by omega) zed D32.zed rfl rfl rfl ?_; intro w2 HS2 hg2)
    have hB3 : Below w1.heap.size w1 w2 := HB2.out.grown hg2 (by simp) (fun k hk => by injection hk with hk; omega)
    have hBw2 := HB1.out.trans (hB3.mono HB1.out.size)
    have HW : Hid ((ls.map (·.l)).flatten = (decC S).2.flatten) := by show _ = _; rw [← HLS.out]; rfl
    have hlen : ls.length ≤ 1000000 := by have := HLLN.out; rw [← HLS.out, wordsOf_length] at this; exact this
    have hlw2 : LinesIn w2 w2.heap.size sd ls.length ls := (HLN.out.below hB3 (Nat.le_refl _)).more hB3.size
    have hb1w2 : w1.heap.size < w2.heap.size := Nat.lt_of_lt_of_le (by simp) hg2.size
    have HCC := Lib.hid (concatS_any sd ls.length cd ls w2 hlw2 HNIL.out (by rw [HW.out]; exact HC.out) (by omega))
    have HBW2 := Lib.hid hBw2
    clear hB3 hBw2 hlw2 HSM hmk hg2 HB2
    refine HCC.out.mono ?_
    rintro e w3 ⟨spc, nc, capc, rfl, hnc, hoc, hb3⟩
    rw [HW.out] at hnc hoc
    obtain ⟨WS, hWS⟩ : ∃ WS, WS = (decC S).2.flatten := ⟨_, rfl⟩
    have HWS := Lib.hid hWS
    rw [← hWS] at hnc hoc
    have HNC := Lib.hid hnc
    have hncb : nc ≤ 1000000 := by rw [hnc, hWS]; exact HC.out
    have HOC := Lib.hid hoc
    have HS3 : Hid (SeenIn w3 w1.heap.size 1 (seenF (WS.take 0))) := by
      have h1 := HS2.out.below hb3
      show SeenIn _ _ _ _
      rw [List.take_zero, seenF_nil]; exact h1
    have HB3 := Lib.hid (HBW2.out.trans (hb3.mono HBW2.out.size))
    have hb1w3 : w1.heap.size < w3.heap.size := Nat.lt_of_lt_of_le hb1w2 hb3.size
    clear hnc hoc hb3 hWS HCC HS2
    go_wp2_with fail
    go_loopw [5, 24] (fun v i wr => ∃ (k m : Nat) (sp' : Option Addr) (cap' : Nat), k ≤ nc ∧ i = .int .i64 k ∧ v = .slice sp' m cap' ∧ Hid (m = (lnk (WS.take k)).length) ∧ Hid (OwnDg wr w3.heap.size (.slice sp' m cap') (lnk (WS.take k))) ∧ Hid (∃ q, q ≤ k + 1 ∧ SeenIn wr w1.heap.size q (seenF (WS.take k))) ∧ Hid (w3.grownBy wr (some w1.heap.size))) (fun _ i _ => nc - (intOf i).toNat)
    case atStart => exact ⟨0, 0, _, _, Nat.zero_le _, rfl, rfl, rfl, OwnDg.nil _ _, ⟨1, Nat.le_refl _, HS3.out⟩, World.grownBy.refl _ _⟩
    case round =>
      obtain ⟨k, m, sp', cap', hk, rfl, rfl, HM, hown, hseen, hgr⟩ := hrel
      obtain ⟨q, hq, hse⟩ := hseen.out
      have hml : m ≤ 1000000 := by rw [HM.out]; exact Nat.le_trans (lnk_le _) (by rw [List.length_take]; omega)
      by_cases hlt : k < nc
      · have hd : decide ((k : Int) < (nc : Int)) = true := by simp; omega
        obtain ⟨s, hs⟩ : ∃ s, WS[k]? = some s := ⟨WS[k]'(by rw [← HNC.out]; exact hlt), List.getElem?_eq_getElem _⟩
        obtain ⟨g, rfl, hgb, hgl, hgc, hcell⟩ := str_rowR HOC.out HNC.out hs
        have hcell2 : wr.cell? ⟨g, 0 + k, none⟩ = some (.string s) := (World.cell?_of_block (a := ⟨g, 0 + k, none⟩) (hgr.out.block g hgl (fun e => by have e2 : some g = some w1.heap.size := e; injection e2 with e2; omega))).trans hcell
        have hcell3 : wr.cell? ⟨g, k, none⟩ = some (.string s) := by rwa [Nat.zero_add] at hcell2
        have HP := Lib.hid (Parse_any s wr (HZ.out s (by rw [← HWS.out]; exact List.mem_of_getElem? hs)))
        have HDO := Lib.hid (ppby_ok s)
        have HID := Lib.hid (info_d HDO.out)
        have HT : Hid (WS.take (k + 1) = WS.take k ++ [s]) := by show _ = _; rw [List.take_add_one, hs]; rfl
        have p1 : (0 : Int) ≤ (k : Int) := by omega
        have p2 : (k : Int) < (nc : Int) := by omega
        obtain ⟨c1, hc1⟩ : ∃ c, ppok s.data.toList = c := ⟨_, rfl⟩
        obtain ⟨c2, hc2⟩ : ∃ c, seenF (WS.take k) (ppby s.data.toList) = c := ⟨_, rfl⟩
        rw [hc1] at HP
        have HC1 := Lib.hid hc1; have HC2 := Lib.hid hc2; have HSE := Lib.hid hse
        clear hcell hs hc1 hc2 hse hseen
        go_wp2_with fail
        refine HP.out.mono ?_
        rintro e w4 ⟨rfl, hb4⟩
        have HO4 := Lib.hid (hown.out.below hb4)
        have HSE4 := Lib.hid (HSE.out.below hb4)
        have HG4 := Lib.hid (grown_belowG hgr.out hb4)
        have hs4 : w1.heap.size < w4.heap.size := Nat.lt_of_lt_of_le hb1w3 HG4.out.size
        have HD4 := Lib.hid (heap_alloc_new w4 (.cells (Array.replicate 32 (Value.int .u8 0)) 29))
        clear hb4
        cases c1
        · have HEQ : Hid (lnk (WS.take (k + 1)) = lnk (WS.take k)) := by show _ = _; rw [HT.out]; exact seenF_same (.inl HC1.out)
          go_wp2_with (first | (refine wpList_store_row rfl 29 _ _ rfl w4.heap.size _ rfl rfl 29 _ HD4.out (by simpa using HID.out) (by simp [HDO.out.1]) (oneCell_map _ _) ?_; rw [setRow_new]; generalize hw5 : World.alloc w4 _ = w5; have hr5 : w5.rangeAt w4.heap.size 0 ((ppby s.data.toList).map (Value.int .u8)) := (by rw [← hw5]; exact range_row (pre := []) (post := []) (heap_alloc_new w4 _) (by simp) rfl); have hb5 : Below w4.heap.size w4 w5 := (by rw [← hw5]; exact (Below.refl _ _).alloc (Nat.le_refl _) _); have hs5 : w4.heap.size < w5.heap.size := (by rw [← hw5]; simp); have HR5 := Lib.hid hr5; have HSE5 := Lib.hid (HSE4.out.below hb5); have hlk := HSE5.out.look (ppby s.data.toList) HDO.out; rw [HC2.out] at hlk; have HO5 := Lib.hid (HO4.out.below hb5); have HG5 := Lib.hid (grown_belowG HG4.out hb5); clear hw5 hr5 hb5))
          go_roundw
          case rel => exact ⟨k + 1, m, sp', cap', hlt, by go_num, rfl, by show _ = _; rw [HEQ.out]; exact HM.out, by show OwnDg _ _ _ _; rw [HEQ.out]; exact HO5.out, ⟨q, by omega, by unfold seenF; rw [HEQ.out]; exact HSE5.out⟩, HG5⟩
          case measure => simp [intOf]; omega
        · cases c2
          · have HEQ := Lib.hid (seenF_snoc HC1.out HC2.out)
            go_wp2_with (first | (refine wpList_store_row rfl 29 _ _ rfl w4.heap.size _ rfl rfl 29 _ HD4.out (by simpa using HID.out) (by simp [HDO.out.1]) (oneCell_map _ _) ?_; rw [setRow_new]; generalize hw5 : World.alloc w4 _ = w5; have hr5 : w5.rangeAt w4.heap.size 0 ((ppby s.data.toList).map (Value.int .u8)) := (by rw [← hw5]; exact range_row (pre := []) (post := []) (heap_alloc_new w4 _) (by simp) rfl); have hb5 : Below w4.heap.size w4 w5 := (by rw [← hw5]; exact (Below.refl _ _).alloc (Nat.le_refl _) _); have hs5 : w4.heap.size < w5.heap.size := (by rw [← hw5]; simp); have HR5 := Lib.hid hr5; have HSE5 := Lib.hid (HSE4.out.below hb5); have hlk := HSE5.out.look (ppby s.data.toList) HDO.out; rw [HC2.out] at hlk; have HO5 := Lib.hid (HO4.out.below hb5); have HG5 := Lib.hid (grown_belowG HG4.out hb5); clear hw5 hr5 hb5) | (refine wpList_load_mid rfl 29 _ rfl w4.heap.size 0 rfl _ _ HR5.out Tryz.underlying29 rfl HID.out ?_) | (refine wpList_load_mid_gR (by rfl) 29 _ rfl w4.heap.size 0 rfl _ _ HR5.out Tryz.underlying29 rfl HID.out ?_) | (refine wpList_seen rfl (.tmp 40) (.tmp 41) (.const (.bool true)) rfl w1.heap.size q _ HSE5.out (by omega) (ppby s.data.toList) HDO.out rfl rfl rfl ?_; intro w6 HS6 hg6; have HR6 := Lib.hid (range_grownR HR5.out hg6 hs5 (by omega)); have HO6 : Hid (OwnDg w6 w3.heap.size (.slice sp' m cap') (lnk (WS.take k))) := ⟨HO5.out.1.kept hg6 (own_neR HO5.out.1 hb1w3), HO5.out.2⟩; have HG6 := Lib.hid (grown_stepG HG5.out hg6 (fun z hz => .inr (Option.some.inj hz).symm)); have hs6 := hg6.size; clear hg6) | (refine wpList_load_mid rfl 29 _ rfl w4.heap.size 0 rfl _ _ HR6.out Tryz.underlying29 rfl HID.out ?_) | (refine wpList_slice_eqG rfl 25 1 [(0, .tmp 43)] rfl [(0, .agg (dv (ppby s.data.toList)))] rfl _ _ (sliceDg _ (ppby s.data.toList) HDO.out) ?_; generalize hw7 : World.alloc w6 _ = w7; have hr7 : w7.rangeAt w6.heap.size 0 ((ppby s.data.toList).map (Value.int .u8)) := (by rw [← hw7]; exact range_row (pre := []) (post := []) (heap_alloc_new w6 _) (by simp) rfl); have hb7 : Below w6.heap.size w6 w7 := (by rw [← hw7]; exact (Below.refl _ _).alloc (Nat.le_refl _) _); have HR7 := Lib.hid hr7; have HS7 := Lib.hid (HS6.out.below hb7); have HO7 := Lib.hid (HO6.out.below hb7); have HG7 := Lib.hid (grown_belowG HG6.out hb7); clear hw7 hr7 hb7) | (at_builtin; refine wpList_append_dg rfl (.tmp 42) (.tmp 44) rfl w3.heap.size _ _ m HM.out rfl HO7.out w6.heap.size (ppby s.data.toList) rfl HR7.out HDO.out (by omega) HG7.out.size ?_; intro sp8 cap8 w8 HO8 HB8 HG8))
            have HG9 := Lib.hid (grown_stepG HG7.out HG8.out (fun z hz => .inl (own_baseG HO7.out.1 z hz)))
            go_roundw
            case rel =>
              refine ⟨k + 1, m + 1, sp8, cap8, hlt, by go_num, rfl, ?_, ?_, ⟨q + 1, by omega, ?_⟩, HG9⟩
              · show _ = _; rw [HT.out, HEQ.out.2, List.length_append, ← HM.out]; rfl
              · show OwnDg _ _ _ _; rw [HT.out, HEQ.out.2]; exact HO8.out
              · have h1 := HS7.out.grown HG8.out (fun e => by have := own_baseG HO7.out.1 w1.heap.size e.symm; omega)
                rw [HEQ.out.1, ← HT.out] at h1
                exact h1
            case measure => simp [intOf]; omega
          · have HEQ : Hid (lnk (WS.take (k + 1)) = lnk (WS.take k)) := by show _ = _; rw [HT.out]; exact seenF_same (.inr HC2.out)
            go_wp2_with (first | (refine wpList_store_row rfl 29 _ _ rfl w4.heap.size _ rfl rfl 29 _ HD4.out (by simpa using HID.out) (by simp [HDO.out.1]) (oneCell_map _ _) ?_; rw [setRow_new]; generalize hw5 : World.alloc w4 _ = w5; have hr5 : w5.rangeAt w4.heap.size 0 ((ppby s.data.toList).map (Value.int .u8)) := (by rw [← hw5]; exact range_row (pre := []) (post := []) (heap_alloc_new w4 _) (by simp) rfl); have hb5 : Below w4.heap.size w4 w5 := (by rw [← hw5]; exact (Below.refl _ _).alloc (Nat.le_refl _) _); have hs5 : w4.heap.size < w5.heap.size := (by rw [← hw5]; simp); have HR5 := Lib.hid hr5; have HSE5 := Lib.hid (HSE4.out.below hb5); have hlk := HSE5.out.look (ppby s.data.toList) HDO.out; rw [HC2.out] at hlk; have HO5 := Lib.hid (HO4.out.below hb5); have HG5 := Lib.hid (grown_belowG HG4.out hb5); clear hw5 hr5 hb5) | (refine wpList_load_mid rfl 29 _ rfl w4.heap.size 0 rfl _ _ HR5.out Tryz.underlying29 rfl HID.out ?_) | (refine wpList_load_mid_gR (by rfl) 29 _ rfl w4.heap.size 0 rfl _ _ HR5.out Tryz.underlying29 rfl HID.out ?_))
            go_roundw
            case rel => exact ⟨k + 1, m, sp', cap', hlt, by go_num, rfl, by show _ = _; rw [HEQ.out]; exact HM.out, by show OwnDg _ _ _ _; rw [HEQ.out]; exact HO5.out, ⟨q, by omega, by unfold seenF; rw [HEQ.out]; exact HSE5.out⟩, HG5⟩
            case measure => simp [intOf]; omega
      · obtain rfl : k = nc := by omega
        have hd : decide ((k : Int) < (k : Int)) = false := by simp
        have HTT : Hid (lnk (WS.take k) = lnkD S) := by show _ = _; rw [List.take_of_length_le (by rw [← HNC.out]; exact Nat.le_refl _), HWS.out]; rfl
        have HBE : Hid (Below w.heap.size w wr) := HB3.out.grown hgr.out HB3.out.size (fun z hz => by injection hz with hz; have := HB1.out.size; omega)
        go_wp2_with fail
        go_ret
        refine ⟨sp', m, cap', rfl, by rw [HM.out, HTT.out], ?_, HBE.out⟩
        have h1 := hown.out
        rw [HTT.out] at h1
        exact ⟨own_lessR h1.1 HB3.out.size, h1.2⟩
  · have HC0 : Hid (lnkD S = []) := by
      show _ = _
      unfold lnkD
      rw [decC_err (by rw [hc]; exact h0)]; rfl
    have hd : ((c : Int) == 0) = false := by simp; omega
    go_enter Tryz.func25, Tryz.ntmps25
    go_wp2_with fail
    refine HDE.out.mono ?_
    rintro e w1 ⟨sd, cd, ls, hls, rfl, hown, heach, hb1⟩
    rw [hc]
    have HB1 := Lib.hid hb1
    clear hown heach hls hb1 HDE
    go_wp2_with fail
    go_ret
    refine ⟨none, 0, 0, rfl, by rw [HC0.out]; rfl, ?_, HB1.out⟩
    rw [HC0.out]; exact OwnDg.nil _ _
end Go.Proofs.YtdjknefbaclleaaGreatDoor

namespace Go.Proofs.YtdjknefbaclleaaGreatDoor
open Go.RowKit

/-- the words ahead of a word -/
def wA (L : List (List ByteArray)) (i j : Nat) : List ByteArray := (L.take i).flatten ++ (L.getD i []).take j
theorem wA_len (L : List (List ByteArray)) (i j : Nat) : (wA L i j).length ≤ L.flatten.length := by
  have h1 : (wA L i j).length ≤ ((L.take (i + 1)).flatten).length := by
    unfold wA
    by_cases h : i < L.length
    · rw [flat_takeG (List.getElem?_eq_getElem h), show L.getD i [] = L[i] from by rw [List.getD_eq_getElem?_getD, List.getElem?_eq_getElem h]; rfl, List.length_append, List.length_append, List.length_take]
      exact Nat.add_le_add_left (Nat.min_le_right _ _) _
    · rw [show L.getD i [] = [] from by rw [List.getD_eq_getElem?_getD, List.getElem?_eq_none (by omega)]; rfl, List.take_of_length_le (show L.length ≤ i by omega), List.take_of_length_le (show L.length ≤ i + 1 by omega)]; simp
  exact Nat.le_trans h1 (by rw [flat_lenT]; exact totG_le L _)
theorem wA_zero (L : List (List ByteArray)) : wA L 0 0 = [] := by simp [wA]
theorem wA_step {L : List (List ByteArray)} {i j : Nat} {l : List ByteArray} {s : ByteArray} (hl : L[i]? = some l) (hs : l[j]? = some s) : wA L i (j + 1) = wA L i j ++ [s] := by
  unfold wA
  rw [List.getD_eq_getElem?_getD, hl]
  show _ ++ l.take (j + 1) = (_ ++ l.take j) ++ [s]
  rw [List.take_add_one, hs]; simp
theorem wA_next {L : List (List ByteArray)} {i : Nat} {l : List ByteArray} (hl : L[i]? = some l) : wA L (i + 1) 0 = wA L i l.length := by
  unfold wA
  rw [show L.getD i [] = l from by rw [List.getD_eq_getElem?_getD, hl]; rfl, flat_takeG hl, List.take_zero, List.append_nil, List.take_length]
theorem wA_all (L : List (List ByteArray)) : wA L L.length 0 = L.flatten := by simp [wA]
set_option maxRecDepth 100000 in
set_option maxHeartbeats 2000000 in
theorem refLinks_any (sp : Option Addr) (n cap : Nat) (l : List UInt8) (w : World) (hs : BSrc w w.heap.size sp n cap l) (hll : (decC ⟨l.toArray⟩).2.length ≤ 1000000) (hc : ((decC ⟨l.toArray⟩).2.flatten).length ≤ 1000000) :
    Calls Tryz.prog 22 #[.slice sp n cap] w (ResD w (lnkD ⟨l.toArray⟩)) := by
  have HDE := Lib.hid (refDecode_any sp n cap l w hs)
  obtain ⟨S, hS⟩ : ∃ S : ByteArray, (⟨l.toArray⟩ : ByteArray) = S := ⟨_, rfl⟩
  rw [hS] at HDE hc hll ⊢
  have HC := Lib.hid hc; have HLLN := Lib.hid hll
  clear hS hs hc hll
  go_enter Tryz.func22, Tryz.ntmps22
  go_wp2_with fail
  refine HDE.out.mono ?_
  rintro e w1 ⟨sd, cd, ls, hls, rfl, hown, heach, hb1⟩
  have HLN := Lib.hid (lines_own hown heach)
  have HLS := Lib.hid hls; have HB1 := Lib.hid hb1
  have hlen : ls.length ≤ 1000000 := by have := HLLN.out; rw [← HLS.out, wordsOf_length] at this; exact this
  clear hown heach hls hb1 HDE
  obtain ⟨L, hL⟩ : ∃ L, L = (decC S).2 := ⟨_, rfl⟩
  have HL := Lib.hid hL
  have hLn : L.length = ls.length := by rw [hL, ← HLS.out, wordsOf_length]
  have hLl : ∀ (i : Nat) (q : Ln), ls[i]? = some q → L[i]? = some q.l := fun i q h => by rw [hL, ← HLS.out]; unfold wordsOf; rw [List.getElem?_map, h]; rfl
  have HLL := Lib.hid hLl
  have HLF : Hid (L.flatten.length ≤ 1000000) := by show _ ≤ _; rw [hL]; exact HC.out
  clear hL hLl
  go_wp2_with fail
  go_loopw [5, 6] (fun v i wr => ∃ (k m : Nat) (sp' : Option Addr) (cap' : Nat), k ≤ ls.length ∧ i = .int .i64 k ∧ v = .slice sp' m cap' ∧ Hid (m = (lnk (wA L k 0)).length) ∧ Hid (OwnDg wr w1.heap.size (.slice sp' m cap') (lnk (wA L k 0))) ∧ Hid (Below w1.heap.size w1 wr)) (fun _ i _ => ls.length - (intOf i).toNat)
  case atStart => exact ⟨0, 0, _, _, Nat.zero_le _, rfl, rfl, by show _ = _; rw [wA_zero]; rfl, by show OwnDg _ _ _ _; rw [wA_zero]; exact OwnDg.nil _ _, Below.refl _ _⟩
  case round =>
    obtain ⟨k, m, sp', cap', hk, rfl, rfl, HM, hown, hbe⟩ := hrel
    by_cases hlt : k < ls.length
    · have hd : decide ((k : Int) < (ls.length : Int)) = true := by simp; omega
      obtain ⟨q, hq⟩ : ∃ q, ls[k]? = some q := ⟨ls[k], List.getElem?_eq_getElem hlt⟩
      have hqe : ls[k] = q := by rw [List.getElem?_eq_getElem hlt] at hq; exact Option.some.inj hq
      obtain ⟨pb, po, rfl, hpb, hcl⟩ := HLN.out.cells (by omega)
      have hqc := hcl k hlt
      rw [hqe] at hqc
      have HQC : Hid (∀ W, Below w1.heap.size w1 W → W.cell? ⟨pb, po + k, none⟩ = some (.slice q.sp q.n q.cap)) := fun W hb => (hb.cell (p := ⟨pb, po + k, none⟩) hpb).trans hqc
      have HST := Lib.hid (HLN.out.each q (List.mem_of_getElem? hq))
      have HLK := Lib.hid (HLL.out k q hq)
      have p1 : (0 : Int) ≤ (k : Int) := by omega
      have p2 : (k : Int) < (ls.length : Int) := by omega
      have q1 : IntKind.i64.wrap (k : Int) = (k : Int) := IntWalk.i64_in _ (by omega)
      clear hq hqe hcl hqc
      go_wp2_with fail
      go_loopw [5, 7] (fun v i wz => ∃ (j m : Nat) (sp' : Option Addr) (cap' : Nat), j ≤ q.n ∧ i = .int .i64 j ∧ v = .slice sp' m cap' ∧ Hid (m = (lnk (wA L k j)).length) ∧ Hid (OwnDg wz w1.heap.size (.slice sp' m cap') (lnk (wA L k j))) ∧ Hid (Below w1.heap.size w1 wz)) (fun _ i _ => q.n - (intOf i).toNat)
      case atStart => exact ⟨0, m, sp', cap', Nat.zero_le _, rfl, rfl, HM, hown, hbe⟩
      case round =>
        obtain ⟨j, m, sp', cap', hj, rfl, rfl, HM, hown, hbe⟩ := hrel
        have hml : m ≤ 1000000 := by rw [HM.out]; exact Nat.le_trans (lnk_le _) (Nat.le_trans (wA_len _ _ _) HLF.out)
        have hqc2 := HQC.out _ hbe.out
        have hqn : q.l.length = q.n := HST.out.len
        have hqb : q.n ≤ 1000000 := by
          have h := wA_len L k q.n
          unfold wA at h
          rw [show L.getD k [] = q.l from by rw [List.getD_eq_getElem?_getD, HLK.out]; rfl, List.length_append, List.length_take] at h
          have := HLF.out
          omega
        by_cases hlt2 : j < q.n
        · have hd2 : decide ((j : Int) < (q.n : Int)) = true := by simp; omega
          obtain ⟨sb, so, hsp, hsb, hsc⟩ := HST.out.cells (by omega)
          rw [hsp] at hqc2
          obtain ⟨s, hs⟩ : ∃ s, q.l[j]? = some s := ⟨q.l[j]'(by omega), List.getElem?_eq_getElem _⟩
          have hcell := hsc j (by omega)
          rw [show q.l[j]'(by omega) = s from by rw [List.getElem?_eq_getElem (by omega)] at hs; exact Option.some.inj hs] at hcell
          have hcell2 := (hbe.out.cell (p := ⟨sb, so + j, none⟩) hsb).trans hcell
          have HP := Lib.hid (fun W => refParse_any s W)
          have HDO := Lib.hid (ppby_ok s)
          have HID := Lib.hid (info_d HDO.out)
          have HT := Lib.hid (wA_step HLK.out hs)
          have he := neqZ (ppby s.data.toList) HDO.out.1
          have p3 : (0 : Int) ≤ (j : Int) := by omega
          have p4 : (j : Int) < (q.n : Int) := by omega
          have q2 : IntKind.i64.wrap (j : Int) = (j : Int) := IntWalk.i64_in _ (by omega)
          obtain ⟨c1, hc1⟩ : ∃ c, ppok s.data.toList = c := ⟨_, rfl⟩
          obtain ⟨c2, hc2⟩ : ∃ c, decide ((ppby s.data.toList) = zed) = c := ⟨_, rfl⟩
          rw [hc2] at he
          rw [hc1] at HP
          have HC1 := Lib.hid hc1; have HC2 := Lib.hid hc2
          have HHAS := Lib.hid (fun W h => has_any sp' m cap' (lnk (wA L k j)) (ppby s.data.toList) W h HDO.out hml)
          clear hcell hs hc1 hc2 hqn hsc
          go_wp2_with fail
          refine (HP.out _).mono ?_
          rintro e w4 ⟨rfl, hb4⟩
          have HO4 := Lib.hid (hown.out.below hb4)
          have HG4 := Lib.hid (hbe.out.trans (hb4.mono hbe.out.size))
          have HD4 := Lib.hid (heap_alloc_new w4 (.cells (Array.replicate 32 (Value.int .u8 0)) 29))
          clear hb4
          cases c1
          · have HEQ : Hid (lnk (wA L k (j + 1)) = lnk (wA L k j)) := by show _ = _; rw [HT.out]; exact lnk_no HC1.out
            go_wp2_with (first | (refine wpList_store_row rfl 29 _ _ rfl w4.heap.size _ rfl rfl 29 _ HD4.out (by simpa using HID.out) (by simp [HDO.out.1]) (oneCell_map _ _) ?_; rw [setRow_new]; generalize hw5 : World.alloc w4 _ = w5; have hr5 : w5.rangeAt w4.heap.size 0 ((ppby s.data.toList).map (Value.int .u8)) := (by rw [← hw5]; exact range_row (pre := []) (post := []) (heap_alloc_new w4 _) (by simp) rfl); have hb5 : Below w4.heap.size w4 w5 := (by rw [← hw5]; exact (Below.refl _ _).alloc (Nat.le_refl _) _); have hs5 : w4.heap.size < w5.heap.size := (by rw [← hw5]; simp); have HR5 := Lib.hid hr5; have HO5 := Lib.hid (HO4.out.below hb5); have HG5 := Lib.hid (HG4.out.trans (hb5.mono HG4.out.size)); clear hw5 hr5 hb5))
            go_roundw
            case rel => exact ⟨j + 1, m, sp', cap', hlt2, by go_num, rfl, by show _ = _; rw [HEQ.out]; exact HM.out, by show OwnDg _ _ _ _; rw [HEQ.out]; exact HO5.out, HG5⟩
            case measure => simp [intOf]; omega
          · cases c2
            · go_wp2_with (first | (refine wpList_store_row rfl 29 _ _ rfl w4.heap.size _ rfl rfl 29 _ HD4.out (by simpa using HID.out) (by simp [HDO.out.1]) (oneCell_map _ _) ?_; rw [setRow_new]; generalize hw5 : World.alloc w4 _ = w5; have hr5 : w5.rangeAt w4.heap.size 0 ((ppby s.data.toList).map (Value.int .u8)) := (by rw [← hw5]; exact range_row (pre := []) (post := []) (heap_alloc_new w4 _) (by simp) rfl); have hb5 : Below w4.heap.size w4 w5 := (by rw [← hw5]; exact (Below.refl _ _).alloc (Nat.le_refl _) _); have hs5 : w4.heap.size < w5.heap.size := (by rw [← hw5]; simp); have HR5 := Lib.hid hr5; have HO5 := Lib.hid (HO4.out.below hb5); have HG5 := Lib.hid (HG4.out.trans (hb5.mono HG4.out.size)); clear hw5 hr5 hb5) | (refine wpList_load_mid rfl 29 _ rfl w4.heap.size 0 rfl _ _ HR5.out Tryz.underlying29 rfl HID.out ?_) | (refine wpList_load_mid_gR (by rfl) 29 _ rfl w4.heap.size 0 rfl _ _ HR5.out Tryz.underlying29 rfl HID.out ?_))
              refine (HHAS.out _ (HO5.out.digs HM.out.symm)).mono ?_
              rintro e w6 ⟨rfl, hb6⟩
              have HR6 := Lib.hid (range_belowG HR5.out hb6 hs5)
              have HO6 := Lib.hid (HO5.out.below hb6)
              have HG6 := Lib.hid (HG5.out.trans (hb6.mono HG5.out.size))
              clear hb6
              obtain ⟨c3, hc3⟩ : ∃ c, decide ((ppby s.data.toList) ∈ lnk (wA L k j)) = c := ⟨_, rfl⟩
              rw [hc3]
              have HC3 := Lib.hid hc3; clear hc3
              cases c3
              · have HEQ : Hid (lnk (wA L k (j + 1)) = lnk (wA L k j) ++ [(ppby s.data.toList)]) := by show _ = _; rw [HT.out]; exact lnk_add HC1.out (of_decide_eq_false HC2.out) (of_decide_eq_false HC3.out)
                go_wp2_with (first | (refine wpList_load_mid rfl 29 _ rfl w4.heap.size 0 rfl _ _ HR6.out Tryz.underlying29 rfl HID.out ?_) | (refine wpList_slice_eqG rfl 25 1 [(0, .tmp 54)] rfl [(0, .agg (dv (ppby s.data.toList)))] rfl _ _ (sliceDg _ (ppby s.data.toList) HDO.out) ?_; generalize hw7 : World.alloc w6 _ = w7; have hr7 : w7.rangeAt w6.heap.size 0 ((ppby s.data.toList).map (Value.int .u8)) := (by rw [← hw7]; exact range_row (pre := []) (post := []) (heap_alloc_new w6 _) (by simp) rfl); have hb7 : Below w6.heap.size w6 w7 := (by rw [← hw7]; exact (Below.refl _ _).alloc (Nat.le_refl _) _); have HR7 := Lib.hid hr7; have HO7 := Lib.hid (HO6.out.below hb7); have HG7 := Lib.hid (HG6.out.trans (hb7.mono HG6.out.size)); clear hw7 hr7 hb7) | (at_builtin; refine wpList_append_dg rfl (.tmp 53) (.tmp 55) rfl w1.heap.size _ _ m HM.out rfl HO7.out w6.heap.size (ppby s.data.toList) rfl HR7.out HDO.out (by omega) HG7.out.size ?_; intro sp8 cap8 w8 HO8 HB8 HG8))
                have HG9 := Lib.hid (HG7.out.trans HB8.out)
                go_roundw
                case rel => exact ⟨j + 1, m + 1, sp8, cap8, hlt2, by go_num, rfl, by show _ = _; rw [HEQ.out, List.length_append, ← HM.out]; rfl, by show OwnDg _ _ _ _; rw [HEQ.out]; exact HO8.out, HG9⟩
                case measure => simp [intOf]; omega
              · have HEQ : Hid (lnk (wA L k (j + 1)) = lnk (wA L k j)) := by show _ = _; rw [HT.out]; exact lnk_has (of_decide_eq_true HC3.out)
                go_wp2_with fail
                go_roundw
                case rel => exact ⟨j + 1, m, sp', cap', hlt2, by go_num, rfl, by show _ = _; rw [HEQ.out]; exact HM.out, by show OwnDg _ _ _ _; rw [HEQ.out]; exact HO6.out, HG6⟩
                case measure => simp [intOf]; omega
            · have HEQ : Hid (lnk (wA L k (j + 1)) = lnk (wA L k j)) := by show _ = _; rw [HT.out]; exact lnk_zero (of_decide_eq_true HC2.out)
              go_wp2_with (first | (refine wpList_store_row rfl 29 _ _ rfl w4.heap.size _ rfl rfl 29 _ HD4.out (by simpa using HID.out) (by simp [HDO.out.1]) (oneCell_map _ _) ?_; rw [setRow_new]; generalize hw5 : World.alloc w4 _ = w5; have hr5 : w5.rangeAt w4.heap.size 0 ((ppby s.data.toList).map (Value.int .u8)) := (by rw [← hw5]; exact range_row (pre := []) (post := []) (heap_alloc_new w4 _) (by simp) rfl); have hb5 : Below w4.heap.size w4 w5 := (by rw [← hw5]; exact (Below.refl _ _).alloc (Nat.le_refl _) _); have hs5 : w4.heap.size < w5.heap.size := (by rw [← hw5]; simp); have HR5 := Lib.hid hr5; have HO5 := Lib.hid (HO4.out.below hb5); have HG5 := Lib.hid (HG4.out.trans (hb5.mono HG4.out.size)); clear hw5 hr5 hb5) | (refine wpList_load_mid rfl 29 _ rfl w4.heap.size 0 rfl _ _ HR5.out Tryz.underlying29 rfl HID.out ?_) | (refine wpList_load_mid_gR (by rfl) 29 _ rfl w4.heap.size 0 rfl _ _ HR5.out Tryz.underlying29 rfl HID.out ?_))
              go_roundw
              case rel => exact ⟨j + 1, m, sp', cap', hlt2, by go_num, rfl, by show _ = _; rw [HEQ.out]; exact HM.out, by show OwnDg _ _ _ _; rw [HEQ.out]; exact HO5.out, HG5⟩
              case measure => simp [intOf]; omega
        · obtain rfl : j = q.n := by omega
          have hd2 : decide ((q.n : Int) < (q.n : Int)) = false := by simp
          have HEQ : Hid (wA L (k + 1) 0 = wA L k q.n) := by show _ = _; rw [← hqn]; exact wA_next HLK.out
          clear hqn
          go_wp2_with fail
          go_roundw
          case rel => exact ⟨k + 1, m, sp', cap', hlt, by go_num, rfl, by show _ = _; rw [HEQ.out]; exact HM.out, by show OwnDg _ _ _ _; rw [HEQ.out]; exact hown.out, hbe⟩
          case measure => simp [intOf]; omega
    · obtain rfl : k = ls.length := by omega
      have hd : decide ((ls.length : Int) < (ls.length : Int)) = false := by simp
      have HTT : Hid (lnk (wA L ls.length 0) = lnkD S) := by show _ = _; rw [← hLn, wA_all, HL.out]; rfl
      go_wp2_with fail
      go_ret
      refine ⟨sp', m, cap', rfl, by rw [HM.out, HTT.out], ?_, HB1.out.trans (hbe.out.mono HB1.out.size)⟩
      have h1 := hown.out
      rw [HTT.out] at h1
      exact ⟨own_lessR h1.1 HB1.out.size, h1.2⟩
end Go.Proofs.YtdjknefbaclleaaGreatDoor
