/-
  StorePuts: the walk of the law (data of at most 2^40 bytes).
-/
import Derived.Test.YtfehgkpmjnmpeaaDoorGt
import Derived.Test.YtfehgkpmjnmpeaaDoorLawSSh
namespace Go.Proofs.YtfehgkpmjnmpeaaDoor
open Go.RowKit Go.Sort

theorem wpList_load_mid_gP {P : Program} {ops : Array Oper} {rest : List Oper} {o : Oper} {a : Act} {w : World} {Q : Exit → Act → World → Prop} (hw : Region.wanted o (yielded ops a.tmps) = true) (ty : TypeId) (x : Operand) (ho : o.op = .load ty x)
    (b k : Nat) (hx : a.eval x = .pointer (some ⟨b, k, none⟩)) (cs : List Value) (d : TypeDesc) (hc : w.rangeAt b k cs)
    (hu : P.underlying ty = some d) (hd : d.isRow = true) (hi : (P.info? ty).map (·.size) = some cs.length)
    (h : wpList P ops Q rest (a.put o.dst (.agg cs.toArray)) w) : wpList P ops Q (o :: rest) a w :=
  wpList_step fun K hK => by rw [if_pos hw]; exact wp_load_mid ty x ho b k hx cs d hc hu hd hi (hK _ _ h)
theorem dv_row (w : World) (d : List Int) : (w.alloc (.cells (dv d) 32)).rangeAt w.heap.size 0 (d.map (Value.int .u8)) := range_row (pre := []) (post := []) (heap_alloc_new w _) (by simp [dv]) rfl
set_option maxRecDepth 100000 in
set_option maxHeartbeats 4000000 in
theorem storePuts_any (sp : Option Addr) (n cap : Nat) (l : List Bl) (dp : Option Addr) (dn dc : Nat) (db : List Int) (pa : Option Addr) (np ncap : Nat) (ls : List Nl) (w : World) (hl : BlsIn w w.heap.size sp n cap l) (hnil : sp = none → cap = 0) (hn : n ≤ 9223372036854775807) (hd40 : ∀ x ∈ l, x.n ≤ 1099511627776) (hdat : Src w w.heap.size dp dn dc db) (hdnil : dp = none → dc = 0) (hnl : NlsIn w w.heap.size pa np ncap ls) (hk : KayIn w) (hk0 : 0 < w.heap.size) :
    Calls Tryd.prog 4 #[.slice sp n cap, .slice dp dn dc, .slice pa np ncap] w fun e w' => e = .returned (.bool true) ∧ Below w.heap.size w w' := by
  have HLI := Lib.hid (lightS_any sp n cap l w hl hn hd40)
  have HL := Lib.hid hl; have HNIL := Lib.hid hnil; have HNL := Lib.hid hnl; have HK := Lib.hid hk; have HK0 := Lib.hid hk0; have HD := Lib.hid hd40; have HDT := Lib.hid hdat; have HDN := Lib.hid hdnil
  clear hl hnil hnl hk hk0 hd40 hdat hdnil
  by_cases hbig : 300000 < dn
  · have hdg : decide ((dn : Int) > 300000) = true := by simp; omega
    go_enter Tryd.func4, Tryd.ntmps4
    go_wp2_with fail
    refine HLI.out.mono ?_
    rintro e w1 ⟨b, rfl, hb300, b1⟩
    cases b
    · go_wp2_with fail
      go_ret
      exact ⟨rfl, b1⟩
    · go_wp2_with fail
      go_ret
      exact ⟨rfl, b1⟩
  have hdg : decide ((dn : Int) > 300000) = false := by simp; omega
  go_enter Tryd.func4, Tryd.ntmps4
  go_wp2_with fail
  refine HLI.out.mono ?_
  rintro e w1 ⟨b, rfl, hb300, b1⟩
  have HB1 := Lib.hid b1; clear b1
  cases b
  · clear hb300
    go_wp2_with fail
    go_ret
    exact ⟨rfl, HB1.out⟩
  have h300 := hb300 rfl
  clear hb300
  go_wp2_with fail
  refine (filled_any pa np ncap ls w1 ((HNL.out.below HB1.out (Nat.le_refl _)).more HB1.out.size)).mono ?_
  rintro e w2 ⟨gs, ns, cs, gd, nd, cd, lx, ds, rfl, hfil, hnd, b2⟩
  have HF := Lib.hid hfil
  have HB2 := Lib.hid (HB1.out.trans (b2.mono HB1.out.size))
  have hns : ns ≤ 12 := by have := hfil.few; omega
  clear hfil b2
  have HRB := Lib.hid (fun w : World => (show (Instr.buildSlice 36 2 #[(0, .slice sp n cap), (1, .slice gs ns cs)]).run Tryd.prog w = .ok (.slice (some ⟨w.heap.size, 0, none⟩) 2 2) (w.alloc (.cells #[.slice sp n cap, .slice gs ns cs] 22)) by kernel_rfl))
  go_wp2_with (refine wpList_slice_eqG rfl 36 2 [(0, .tmp 34), (1, .tmp 35)] rfl [(0, .slice sp n cap), (1, .slice gs ns cs)] rfl _ _ (HRB.out _) ?_; generalize hw0 : World.alloc w2 _ = w3; have hg3 := (by rw [← hw0]; exact heap_alloc_new w2 _ : w3.heap[w2.heap.size]? = some (.cells #[.slice sp n cap, .slice gs ns cs] 22 (0, 0))); have hb3 := (by rw [← hw0]; exact (Below.refl _ _).alloc (Nat.le_refl _) _ : Below w2.heap.size w2 w3); have hs3 := (by rw [← hw0]; simp : w2.heap.size < w3.heap.size); have HG3 := Lib.hid hg3; have HB3 := Lib.hid hb3; have HS3 := Lib.hid hs3; clear hw0 hg3 hb3 hs3)
  have HBL3 := Lib.hid (HB2.out.trans (HB3.out.mono HB2.out.size))
  have HX3 := Lib.hid (HF.out.sto.below HB3.out)
  go_loopw [38] (fun i wr => ∃ k : Nat, i = .int .i64 k ∧ k ≤ 2 ∧ Hid (Below w3.heap.size w3 wr)) (fun i _ => 2 - (intOf i).toNat)
  case atStart => exact ⟨0, rfl, by omega, Below.refl _ _⟩
  case round =>
    obtain ⟨k, rfl, hk2, hbe⟩ := hrel
    have HBW := Lib.hid (HBL3.out.trans (hbe.out.mono HBL3.out.size))
    by_cases hlt : k < 2
    · have hd : decide ((k : Int) < 2) = true := by simp; omega
      have hpick : ∃ (sk : Option Addr) (nk ck : Nat) (lk : List Bl), wr.cell? ⟨w2.heap.size, k, none⟩ = some (.slice sk nk ck) ∧ BlsIn wr wr.heap.size sk nk ck lk ∧ (sk = none → ck = 0) ∧ nk ≤ 300 ∧ ∀ x ∈ lk, x.n ≤ 1099511627776 := by
        have hg := (hbe.out.block w2.heap.size HS3.out).trans HG3.out
        rcases (by omega : k = 0 ∨ k = 1) with rfl | rfl
        · exact ⟨sp, n, cap, l, by rw [cell_of_row wr _ 0 _ _ _ hg]; rfl, HL.out.up HBW.out (Nat.le_refl _), HNIL.out, h300, HD.out⟩
        · refine ⟨gs, ns, cs, lx, by rw [cell_of_row wr _ 1 _ _ _ hg]; rfl, (HX3.out.below hbe.out).bls HF.out.len, HX3.out.own.nilcap, by omega, fun x hx => ?_⟩
          have h1 := HF.out.good.sz (bp x) (List.mem_map_of_mem hx)
          have h2 := (HX3.out.dat x hx).dat.src.len
          have h3 : x.b.length ≤ 262144 := h1
          omega
      obtain ⟨sk, nk, ck, lk, hcell, hbk, hnk, hn300, hdk⟩ := hpick
      have HBK := Lib.hid hbk; have HNK := Lib.hid hnk; have HDK := Lib.hid hdk
      have p1 : (0 : Int) ≤ (k : Int) := by omega
      have p2 : (k : Int) < 2 := by omega
      have q0 : IntKind.i64.wrap (k : Int) = (k : Int) := IntWalk.i64_in _ (by omega)
      clear hbk hnk hdk
      go_wp2_with fail
      refine (put_any sk nk ck lk dp dn dc db wr HBK.out HNK.out (by omega) ((HDT.out.below HBW.out (Nat.le_refl _)).more HBW.out.size) HDN.out (HK.out.below HBW.out HK0.out) (Nat.lt_of_lt_of_le HK0.out HBW.out.size)).mono ?_
      rintro e w4 ⟨hput, b4⟩
      obtain ⟨sa, ma, ca, D, c, La, T, rfl, hv1, hLT, hbA, hma⟩ := putR_v hput
      have HV1 := Lib.hid hv1; have HLT := Lib.hid hLT; have HA := Lib.hid hbA
      have HB4 := Lib.hid (HBW.out.trans (b4.mono HBW.out.size))
      have HE4 := Lib.hid (hbe.out.trans (b4.mono hbe.out.size))
      have HK4 := Lib.hid (HBK.out.up b4 (Nat.le_refl _))
      have HDD := Lib.hid (putV_d32 hv1)
      have HDI := Lib.hid (dv_info D HDD.out.1)
      have HDR := Lib.hid (info_d HDD.out)
      have HZ4 := Lib.hid (heap_alloc_new w4 (.cells (Array.replicate 32 (Value.int .u8 0)) 32))
      clear hput hv1 hLT hbA b4 hcell
      go_wp2_with (refine wpList_store_row rfl 32 _ _ rfl w4.heap.size _ rfl rfl 32 _ HZ4.out HDI.out (dv_size32 D HDD.out.1) (dv_one D) ?_; rw [setRow_new]; generalize hw5 : World.alloc w4 _ = w5; have hr5 := (by rw [← hw5]; exact dv_row w4 D : w5.rangeAt w4.heap.size 0 (D.map (Value.int .u8))); have hb5 : Below w4.heap.size w4 w5 := (by rw [← hw5]; exact (Below.refl _ _).alloc (Nat.le_refl _) _); have hs5 : w4.heap.size < w5.heap.size := (by rw [← hw5]; simp); have HR5 := Lib.hid hr5; have HS5 := Lib.hid hs5; have HB5 := Lib.hid (HB4.out.trans (hb5.mono HB4.out.size)); have HE5 := Lib.hid (HE4.out.trans (hb5.mono HE4.out.size)); have HK5 := Lib.hid (HK4.out.up hb5 (Nat.le_refl _)); have HA5 := Lib.hid (HA.out.up hb5 (Nat.le_refl _)); clear hw5 hr5 hb5 hs5)
      refine (rput_any sk nk ck lk dp dn dc db w5 HK5.out HNK.out (by omega) ((HDT.out.below HB5.out (Nat.le_refl _)).more HB5.out.size) HDN.out).mono ?_
      rintro e w6 ⟨hput, b6⟩
      obtain ⟨sb, mb, cb, D', c', T', rfl, hv2, hbB⟩ := rputR_v rfl hput
      obtain ⟨rfl, rfl, rfl⟩ := putV_det HV1.out hv2
      have hmm : mb = ma := by
        have h1 := congrArg List.length HLT.out
        rw [List.length_map, List.length_map, HA.out.len, hbB.len] at h1
        exact h1.symm
      subst hmm
      have HBv := Lib.hid hbB
      have HB6 := Lib.hid (HB5.out.trans (b6.mono HB5.out.size))
      have HE6 := Lib.hid (HE5.out.trans (b6.mono HE5.out.size))
      have HK6 := Lib.hid (HK5.out.up b6 (Nat.le_refl _))
      have HA6 := Lib.hid (HA5.out.up b6 (Nat.le_refl _))
      have HR6 := Lib.hid (range_belowG HR5.out b6 HS5.out)
      have HS6 := Lib.hid (Nat.lt_of_lt_of_le HS5.out b6.size)
      have HZ6 := Lib.hid (heap_alloc_new w6 (.cells (Array.replicate 32 (Value.int .u8 0)) 32))
      clear hput hv2 hbB b6
      go_wp2_with (first
        | (refine wpList_store_row rfl 32 _ _ rfl w6.heap.size _ rfl rfl 32 _ HZ6.out HDI.out (dv_size32 D HDD.out.1) (dv_one D) ?_; rw [setRow_new]; generalize hw7 : World.alloc w6 _ = w7; have hr7 := (by rw [← hw7]; exact dv_row w6 D : w7.rangeAt w6.heap.size 0 (D.map (Value.int .u8))); have hb7 : Below w6.heap.size w6 w7 := (by rw [← hw7]; exact (Below.refl _ _).alloc (Nat.le_refl _) _); have hs7 : w6.heap.size < w7.heap.size := (by rw [← hw7]; simp); have HR7 := Lib.hid hr7; have HS7 := Lib.hid hs7; have HQ7 := Lib.hid (range_belowG HR6.out hb7 HS6.out); have HP7 := Lib.hid (Nat.lt_trans HS6.out hs7); have HB7 := Lib.hid (HB6.out.trans (hb7.mono HB6.out.size)); have HE7 := Lib.hid (HE6.out.trans (hb7.mono HE6.out.size)); have HK7 := Lib.hid (HK6.out.up hb7 (Nat.le_refl _)); have HA7 := Lib.hid (HA6.out.up hb7 (Nat.le_refl _)); have HV7 := Lib.hid (HBv.out.up hb7 (Nat.le_refl _)); clear hw7 hr7 hb7 hs7)
        | (refine wpList_load_mid rfl 32 _ rfl w6.heap.size 0 rfl _ _ HR7.out Tryd.underlying32 rfl HDR.out ?_))
      refine (get_v sk nk ck lk D w7 HK7.out (by omega) HDK.out HDD.out).mono ?_
      rintro e w8 ⟨⟨sg, mg, cg, f, gb, rfl, hg1, hsg⟩, b8⟩
      have HG1 := Lib.hid hg1; have HSG := Lib.hid hsg
      have HR8 := Lib.hid (range_belowG HR7.out b8 HS7.out)
      have HQ8 := Lib.hid (range_belowG HQ7.out b8 HP7.out)
      have HS8 := Lib.hid (Nat.lt_of_lt_of_le HS7.out b8.size)
      have HP8 := Lib.hid (Nat.lt_of_lt_of_le HP7.out b8.size)
      have HB8 := Lib.hid (HB7.out.trans (b8.mono HB7.out.size))
      have HE8 := Lib.hid (HE7.out.trans (b8.mono HE7.out.size))
      have HK8 := Lib.hid (HK7.out.up b8 (Nat.le_refl _))
      have HA8 := Lib.hid (HA7.out.up b8 (Nat.le_refl _))
      have HV8 := Lib.hid (HV7.out.up b8 (Nat.le_refl _))
      clear hg1 hsg b8
      go_wp2_with (first
        | (refine wpList_load_mid rfl 32 _ rfl w6.heap.size 0 rfl _ _ HR8.out Tryd.underlying32 rfl HDR.out ?_))
      refine (rget_v sk nk ck lk D w8 HK8.out (by omega) HDD.out).mono ?_
      rintro e w9 ⟨⟨sh, mh, ch, f', gb', rfl, hg2, hsh⟩, b9⟩
      obtain ⟨rfl, rfl⟩ := getV_det HG1.out hg2
      have HSH := Lib.hid hsh
      have HSG9 := Lib.hid ((HSG.out.below b9 (Nat.le_refl _)).more b9.size)
      have HR9 := Lib.hid (range_belowG HR8.out b9 HS8.out)
      have HQ9 := Lib.hid (range_belowG HQ8.out b9 HP8.out)
      have HB9 := Lib.hid (HB8.out.trans (b9.mono HB8.out.size))
      have HE9 := Lib.hid (HE8.out.trans (b9.mono HE8.out.size))
      have HA9 := Lib.hid (HA8.out.up b9 (Nat.le_refl _))
      have HV9 := Lib.hid (HV8.out.up b9 (Nat.le_refl _))
      clear hg2 hsh b9
      have he : ∀ W, (binOp .neq 32 (.agg (dv D)) (.agg (dv D))).run Tryd.prog W = .ok (.bool false) W := fun W => by
        have h := neqD D D HDD.out.1 HDD.out.1 W
        rw [decide_eq_true rfl] at h; exact h
      have he2 : ∀ W, (Op.equalIn 10000 32 (.agg (D.map (Value.int .u8)).toArray) (.agg (D.map (Value.int .u8)).toArray)).run Tryd.prog W = .ok true W := fun W => by
        have h := eq_digD 9998 D D HDD.out.1 HDD.out.1 W
        rw [decide_eq_true rfl] at h; exact h
      have hcc : (!(c == c)) = false := by simp
      go_wp2_with (first
        | (refine wpList_load_mid_gP rfl 32 _ rfl w4.heap.size 0 rfl _ _ HQ9.out Tryd.underlying32 rfl HDR.out ?_)
        | (refine wpList_load_mid_gP rfl 32 _ rfl w6.heap.size 0 rfl _ _ HR9.out Tryd.underlying32 rfl HDR.out ?_))
      refine (same05_any sa mb ca La sb cb T w9 HA9.out HV9.out (by omega) HLT.out).mono ?_
      rintro e w10 ⟨rfl, b10⟩
      have HB10 := Lib.hid (HB9.out.trans (b10.mono HB9.out.size))
      have HE10 := Lib.hid (HE9.out.trans (b10.mono HE9.out.size))
      have hk1 := conv_src ((HSG9.out.below b10 (Nat.le_refl _)).more b10.size) cg
      have hk2 := conv_src ((HSH.out.below b10 (Nat.le_refl _)).more b10.size) ch
      have hff : (!(f == f)) = false := by simp
      clear b10
      go_wp2_with fail
      refine ⟨⟨k + 1, by go_num, by omega, HE10.out⟩, ?_⟩
      simp [intOf]; omega
    · obtain rfl : k = 2 := by omega
      have hd : decide (((2 : Nat) : Int) < 2) = false := by simp
      have HAW := Lib.hid (awake5_any wr (HK.out.below HBW.out HK0.out) (Nat.lt_of_lt_of_le HK0.out HBW.out.size))
      go_wp2_with fail
      refine HAW.out.mono ?_
      rintro e w4 ⟨rfl, b4⟩
      have HB4 := Lib.hid (HBW.out.trans (b4.mono HBW.out.size))
      go_wp2_with fail
      go_ret
      exact ⟨rfl, HB4.out⟩
end Go.Proofs.YtfehgkpmjnmpeaaDoor
