/-
  StoreShapes: the walk of the law (data of at most 2^40 bytes).
-/
import Derived.Test.YtfehgkpmjnmpeaaDoorStsL
import Derived.Test.YtfehgkpmjnmpeaaDoorStsD
import Derived.Test.YtfehgkpmjnmpeaaDoorStsG
import Derived.Test.YtfehgkpmjnmpeaaDoorStsH
import Derived.Test.YtfehgkpmjnmpeaaDoorGj
namespace Go.Proofs.YtfehgkpmjnmpeaaDoor
open Go.RowKit

theorem NumsIn.more {w : World} {B B' : Nat} {sp : Option Addr} {n cap : Nat} {l : List Int} (h : NumsIn w B sp n cap l) (hB : B ≤ B') : NumsIn w B' sp n cap l :=
  ⟨h.len, fun hn => by
    obtain ⟨b, off, e, hlt, hc, hr⟩ := h.cells hn
    exact ⟨b, off, e, by omega, hc, hr⟩, h.wide, h.short⟩
theorem NlsIn.more {w : World} {B B' : Nat} {pa : Option Addr} {np ncap : Nat} {ls : List Nl} (h : NlsIn w B pa np ncap ls) (hB : B ≤ B') : NlsIn w B' pa np ncap ls :=
  ⟨h.len, fun hn => by
    obtain ⟨pb, po, e, hlt, hc, hr⟩ := h.cells hn
    exact ⟨pb, po, e, by omega, hc, hr⟩, fun q hq => (h.each q hq).more hB, h.short⟩
set_option maxRecDepth 100000 in
set_option maxHeartbeats 4000000 in
theorem storeShapes_any (sp : Option Addr) (n cap : Nat) (l : List Bl) (pa : Option Addr) (np ncap : Nat) (ls : List Nl) (w : World) (hl : BlsIn w w.heap.size sp n cap l) (hn : n ≤ 9223372036854775807) (hd40 : ∀ x ∈ l, x.n ≤ 1099511627776) (hnl : NlsIn w w.heap.size pa np ncap ls) (hk : KayIn w) (hk0 : 0 < w.heap.size) :
    Calls Tryd.prog 3 #[.slice sp n cap, .slice pa np ncap] w fun e w' => e = .returned (.bool true) ∧ Below w.heap.size w w' := by
  have HLI := Lib.hid (lightS_any sp n cap l w hl hn hd40)
  have HL := Lib.hid hl; have HNL := Lib.hid hnl; have HK := Lib.hid hk; have HK0 := Lib.hid hk0; have HD := Lib.hid hd40
  clear hl hnl hk hk0 hd40
  go_enter Tryd.func3, Tryd.ntmps3
  go_wp2_with fail
  refine HLI.out.mono ?_
  rintro e w1 ⟨b, rfl, hb300, b1⟩
  have HB1 := Lib.hid b1; clear b1
  cases b
  · clear hb300
    go_wp2_with fail
    go_ret
    exact ⟨rfl, HB1.out⟩
  · have h300 := hb300 rfl
    clear hb300
    go_wp2_with fail
    refine (filled_any pa np ncap ls w1 ((HNL.out.below HB1.out (Nat.le_refl _)).more HB1.out.size)).mono ?_
    rintro e w2 ⟨gs, ns, cs, gd, nd, cd, lx, ds, rfl, hfil, hnd, b2⟩
    have HF := Lib.hid hfil
    have HB2 := Lib.hid (HB1.out.trans (b2.mono HB1.out.size))
    have hns : ns ≤ 12 := by have := hfil.few; omega
    clear hfil b2
    have HAW := Lib.hid (awake5_any w2 (HK.out.below HB2.out HK0.out) (Nat.lt_of_lt_of_le HK0.out HB2.out.size))
    go_wp2_with fail
    refine HAW.out.mono ?_
    rintro e w3 ⟨rfl, b3⟩
    have HB3 := Lib.hid (HB2.out.trans (b3.mono HB2.out.size))
    have HX3 := Lib.hid (HF.out.sto.below b3)
    clear b3
    have HV := Lib.hid (fun w' h => valid_bls sp n cap l w' h (by omega))
    have HRV := Lib.hid (fun w' h => rvalid_bls sp n cap l w' h (by omega))
    generalize vldP (l.map bp) = vv at *
    go_wp2_with fail
    refine (HV.out w3 (HL.out.up HB3.out (Nat.le_refl _))).mono ?_
    rintro e w4 ⟨rfl, b4⟩
    have HB4 := Lib.hid (HB3.out.trans (b4.mono HB3.out.size))
    have HX4 := Lib.hid (HX3.out.below b4)
    clear b4
    go_wp2_with fail
    refine (HRV.out w4 (HL.out.up HB4.out (Nat.le_refl _))).mono ?_
    rintro e w5 ⟨rfl, b5⟩
    have HB5 := Lib.hid (HB4.out.trans (b5.mono HB4.out.size))
    have HX5 := Lib.hid (HX4.out.below b5)
    clear b5
    have hvv : (vv == vv) = true := by simp
    go_wp2_with fail
    refine (audit_any sp n cap l w5 (HL.out.up HB5.out (Nat.le_refl _)) (by omega) HD.out (HK.out.below HB5.out HK0.out) (Nat.lt_of_lt_of_le HK0.out HB5.out.size)).mono ?_
    rintro e w6 ⟨g6, k6, c6, rfl, hk6, ho6, b6⟩
    have HO6 := Lib.hid ho6; have HK6 := Lib.hid hk6
    have HB6 := Lib.hid (HB5.out.trans (b6.mono HB5.out.size))
    have HX6 := Lib.hid (HX5.out.below b6)
    clear b6 ho6 hk6
    go_wp2_with fail
    refine (raudit_any sp n cap l w6 (HL.out.up HB6.out (Nat.le_refl _)) (by omega) HD.out).mono ?_
    rintro e w7 ⟨g7, k7, c7, rfl, hk7, ho7, b7⟩
    have HO7 := Lib.hid ho7; have HK7 := Lib.hid hk7
    have HO67 := Lib.hid (HO6.out.below b7)
    have HB7 := Lib.hid (HB6.out.trans (b7.mono HB6.out.size))
    have HX7 := Lib.hid (HX6.out.below b7)
    clear b7 ho7 hk7
    have HAL := Lib.hid (show (audP (l.map bp)).length ≤ 300 by have := audP_le (l.map bp); rw [List.length_map, HL.out.len] at this; omega)
    have hk67 : k6 ≤ 1000000 := by have := HAL.out; have := HK6.out; omega
    go_wp2_with fail
    refine (sameD_any g6 k6 c6 (audP (l.map bp)) g7 k7 c7 (audP (l.map bp)) w7 (HO67.out.digs HK6.out.symm) (HO7.out.digs HK7.out.symm) hk67 rfl).mono ?_
    rintro e w8 ⟨rfl, b8⟩
    have HB8 := Lib.hid (HB7.out.trans (b8.mono HB7.out.size))
    have HX8 := Lib.hid (HX7.out.below b8)
    clear b8
    have HD1 := Lib.hid (d32_tree (l.map (·.d)) (fun x hx => by
      obtain ⟨y, hy, rfl⟩ := List.mem_map.1 hx
      exact ⟨(HL.out.ok y hy).1, (HL.out.ok y hy).2⟩))
    have HRT := Lib.hid (show Calls Tryd.prog 15 #[.slice sp n cap] w8 fun e w' => e = .returned (.agg (dv (tree (l.map (·.d))))) ∧ Below w8.heap.size w8 w' from root_any sp n cap l w8 (HL.out.up HB8.out (Nat.le_refl _)) (by omega) (HK.out.below HB8.out HK0.out) (Nat.lt_of_lt_of_le HK0.out HB8.out.size))
    have HRR := Lib.hid (fun w' h => (show Calls Tryd.prog 16 #[.slice sp n cap] w' fun e w'' => e = .returned (.agg (dv (tree (l.map (·.d))))) ∧ Below w'.heap.size w' w'' from rroot_any sp n cap l w' h (by omega)))
    generalize tree (l.map (·.d)) = t1 at *
    have he1 : ∀ w', (binOp .eql 32 (.agg (dv t1)) (.agg (dv t1))).run Tryd.prog w' = .ok (.bool true) w' := fun w' => by
      have := eqlD t1 t1 HD1.out.1 HD1.out.1 w'
      rw [decide_eq_true rfl] at this; exact this
    go_wp2_with fail
    refine HRT.out.mono ?_
    rintro e w9 ⟨rfl, b9⟩
    have HB9 := Lib.hid (HB8.out.trans (b9.mono HB8.out.size))
    have HX9 := Lib.hid (HX8.out.below b9)
    clear b9
    go_wp2_with fail
    refine (HRR.out w9 (HL.out.up HB9.out (Nat.le_refl _))).mono ?_
    rintro e w10 ⟨rfl, b10⟩
    have HB10 := Lib.hid (HB9.out.trans (b10.mono HB9.out.size))
    have HX10 := Lib.hid (HX9.out.below b10)
    clear b10
    have HVX := Lib.hid (fun w' h => valid_bls gs ns cs lx w' h (by omega))
    rw [HF.out.good.vld (by rw [List.length_map, HF.out.len]; omega)] at HVX
    go_wp2_with fail
    refine (HVX.out w10 (HX10.out.bls HF.out.len)).mono ?_
    rintro e w11 ⟨rfl, b11⟩
    have HB11 := Lib.hid (HB10.out.trans (b11.mono HB10.out.size))
    have HX11 := Lib.hid (HX10.out.below b11)
    clear b11
    have HDX := Lib.hid (show ∀ x ∈ lx, x.n ≤ 1099511627776 from fun x hx => by
      have h1 := HF.out.good.sz (bp x) (List.mem_map_of_mem hx)
      have h2 := (HX11.out.dat x hx).dat.src.len
      have h3 : x.b.length ≤ 262144 := h1
      omega)
    have HAX := Lib.hid (audit_any gs ns cs lx w11 (HX11.out.bls HF.out.len) (by omega) HDX.out (HK.out.below HB11.out HK0.out) (Nat.lt_of_lt_of_le HK0.out HB11.out.size))
    rw [audP_nil (l := lx.map bp) (fun x hx => HF.out.good.aud x hx)] at HAX
    go_wp2_with fail
    refine HAX.out.mono ?_
    rintro e w12 ⟨g12, k12, c12, rfl, hk12, _, b12⟩
    obtain rfl : k12 = 0 := hk12
    have HB12 := Lib.hid (HB11.out.trans (b12.mono HB11.out.size))
    have HX12 := Lib.hid (HX11.out.below b12)
    clear b12
    have HD2 := Lib.hid (d32_tree (lx.map (·.d)) (fun x hx => by
      obtain ⟨y, hy, rfl⟩ := List.mem_map.1 hx
      exact ⟨(HX12.out.own.2 y hy).1, (HX12.out.own.2 y hy).2⟩))
    have HRT2 := Lib.hid (show Calls Tryd.prog 15 #[.slice gs ns cs] w12 fun e w' => e = .returned (.agg (dv (tree (lx.map (·.d))))) ∧ Below w12.heap.size w12 w' from root_any gs ns cs lx w12 (HX12.out.bls HF.out.len) (by omega) (HK.out.below HB12.out HK0.out) (Nat.lt_of_lt_of_le HK0.out HB12.out.size))
    have HRR2 := Lib.hid (fun w' h => (show Calls Tryd.prog 16 #[.slice gs ns cs] w' fun e w'' => e = .returned (.agg (dv (tree (lx.map (·.d))))) ∧ Below w'.heap.size w' w'' from rroot_any gs ns cs lx w' h (by omega)))
    generalize tree (lx.map (·.d)) = t2 at *
    have he2 : ∀ w', (binOp .eql 32 (.agg (dv t2)) (.agg (dv t2))).run Tryd.prog w' = .ok (.bool true) w' := fun w' => by
      have := eqlD t2 t2 HD2.out.1 HD2.out.1 w'
      rw [decide_eq_true rfl] at this; exact this
    go_wp2_with fail
    refine HRT2.out.mono ?_
    rintro e w13 ⟨rfl, b13⟩
    have HB13 := Lib.hid (HB12.out.trans (b13.mono HB12.out.size))
    have HX13 := Lib.hid (HX12.out.below b13)
    clear b13
    go_wp2_with fail
    refine (HRR2.out w13 (HX13.out.bls HF.out.len)).mono ?_
    rintro e w14 ⟨rfl, b14⟩
    have HB14 := Lib.hid (HB13.out.trans (b14.mono HB13.out.size))
    clear b14
    go_wp2_with fail
    go_ret
    exact ⟨rfl, HB14.out⟩
end Go.Proofs.YtfehgkpmjnmpeaaDoor
