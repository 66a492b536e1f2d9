/-
  Versions, the reference: the walks of debian and Valid (strings of at most 100000 bytes).
-/
import Derived.Test.YtceeilojcifgeaaGreatDoorVrfC
namespace Go.Proofs.YtceeilojcifgeaaGreatDoor
open Go.RowKit

def hdD (u : BL) : Bool := match u with
  | [] => false
  | c :: _ => isD c
def debR2 (ep rest : BL) : Option (List BL) := if 0 ≤ lastI 45 rest ∧ madeB [46, 43, 126] (revD rest) = false then none
  else if (digs ep && (madeB [46, 43, 126, 45] (upsD rest) && hdD (upsD rest))) = true then some [ep, upsD rest, revD rest] else none
/-- the parts of a Debian version, as the reference reads them -/
def debR (l : BL) : Option (List BL) := if (cutL 58 l).2.2 = true then debR2 (cutL 58 l).1 (cutL 58 l).2.1 else debR2 [48] l
def PostD (B : Nat) (w : World) (o : Option (List BL)) (e : Ending) (w' : World) : Prop := Below B w w' ∧ match o with
  | none => e = .returned (.tuple #[.slice none 0 0, .bool false])
  | some p => ∃ v, e = .returned (.tuple #[v, .bool true]) ∧ RowS B w' v p
theorem PostD.mk0 {B : Nat} {w w' : World} {o : Option (List BL)} (ho : o = none) (hb : Below B w w') : PostD B w o (.returned (.tuple #[.slice none 0 0, .bool false])) w' := by
  subst ho; exact ⟨hb, rfl⟩
theorem PostD.mk1 {B : Nat} {w w' : World} {o : Option (List BL)} {a : List BL} {v : Value} (ho : o = some a) (hb : Below B w w') (h1 : RowS B w' v a) : PostD B w o (.returned (.tuple #[v, .bool true])) w' := by
  subst ho; exact ⟨hb, v, rfl, h1⟩
set_option maxRecDepth 100000 in
set_option maxHeartbeats 8000000 in
theorem rDebian_any (l : BL) (w : World) (hl : l.length ≤ 100000) :
    Calls Tryz.prog 35 #[.string (bs l)] w (PostD w.heap.size w (debR l)) := by
  have HC0 := Lib.hid (fun w => cut_anyV 58 l w hl)
  have hcl0 := cutL_len 58 l
  have HR0 := Lib.hid (show debR l = if (cutL 58 l).2.2 = true then debR2 (cutL 58 l).1 (cutL 58 l).2.1 else debR2 [48] l from rfl)
  generalize cutL 58 l = c0 at *
  obtain ⟨c1, c2, has⟩ := c0
  dsimp only at HC0 hcl0 HR0
  cases has
  · obtain ⟨ep, hep⟩ : ∃ ep : BL, [48] = ep := ⟨_, rfl⟩
    obtain ⟨rest, hrest⟩ : ∃ rest, l = rest := ⟨_, rfl⟩
    have HR2 := Lib.hid (show debR l = debR2 ep rest by rw [← hep, ← hrest]; exact HR0.out)
    have HEP := Lib.hid (show bs ep = ⟨#[48]⟩ by rw [← hep]; rfl)
    have HLR := Lib.hid (show bs l = bs rest by rw [hrest])
    have hel : ep.length ≤ 100000 := by rw [← hep]; decide
    have hrl : rest.length ≤ 100000 := by rw [← hrest]; exact hl
    rw [HLR.out] at HC0 ⊢
    clear hep hrest HR0 hcl0
    have HLI := Lib.hid (fun w => lastIndex_anyV 45 rest w hrl)
    have hrg : -1 ≤ lastI 45 rest ∧ lastI 45 rest < rest.length := lastK_rng 45 rest rest.length
    have HF0 := Lib.hid (show debR l = if 0 ≤ lastI 45 rest ∧ madeB [46, 43, 126] (revD rest) = false then none
      else if (digs ep && (madeB [46, 43, 126, 45] (upsD rest) && hdD (upsD rest))) = true then some [ep, upsD rest, revD rest] else none from HR2.out)
    obtain ⟨rs, hrs, -, hsz, ht, hd⟩ := bs_facts rest
    rw [hrs] at HC0 ⊢
    by_cases hi : lastI 45 rest < 0
    · have hU : upsD rest = rest := if_pos hi
      have hV : revD rest = [] := if_pos hi
      have e1 : lastI 45 rest = -1 := by omega
      obtain ⟨u, hu⟩ : ∃ u, rest = u := ⟨_, rfl⟩
      obtain ⟨rv, hrv⟩ : ∃ rv : BL, [] = rv := ⟨_, rfl⟩
      have HF := Lib.hid (show debR l = if (digs ep && (madeB [46, 43, 126, 45] u && hdD u)) = true then some [ep, u, rv] else none by rw [HF0.out, if_neg (by intro h; omega), hU, hV, hu, hrv])
      have HRV := Lib.hid (show bs rv = ⟨#[]⟩ by rw [← hrv]; rfl)
      have HUS := Lib.hid (show bs u = rs by rw [← hu, hrs])
      have hul : u.length ≤ 100000 := by rw [← hu]; exact hrl
      rw [e1, hrs] at HLI
      clear hi hrg e1 hU hV hu hrv HF0 hsz ht hd hrl
      have HDG := Lib.hid (fun w => rDigits_any ep w hel)
      rw [HEP.out] at HDG
      have HMU := Lib.hid (fun w => rMade_any [46, 43, 126, 45] u w hul)
      rw [HUS.out] at HMU
      have HUN := Lib.hid (show u = [] → madeB [46, 43, 126, 45] u = false by rintro rfl; rfl)
      generalize madeB [46, 43, 126, 45] u = xm at *
      generalize digs ep = xd at *
      cases xd
      · have HX := Lib.hid (show debR l = none from HF.out)
        go_enter Tryz.func35, Tryz.ntmps35
        go_wp2_with fail
        refine (HC0.out _).mono ?_
        rintro e wt ⟨rfl, nd, hwt⟩
        have HBT := Lib.hid (show Below w.heap.size w wt by rw [hwt]; exact below_drewNV2 (Below.refl _ _) nd)
        clear hwt
        go_wp2_with fail
        refine (HLI.out _).mono ?_
        rintro e w' ⟨rfl, rfl⟩
        go_wp2_with fail
        refine (HDG.out _).mono ?_
        rintro e w' ⟨rfl, rfl⟩
        go_wp2_with fail
        go_ret2
        exact PostD.mk0 HX.out HBT.out
      · cases xm
        · have HX := Lib.hid (show debR l = none from HF.out)
          go_enter Tryz.func35, Tryz.ntmps35
          go_wp2_with fail
          refine (HC0.out _).mono ?_
          rintro e wt ⟨rfl, nd, hwt⟩
          have HBT := Lib.hid (show Below w.heap.size w wt by rw [hwt]; exact below_drewNV2 (Below.refl _ _) nd)
          clear hwt
          go_wp2_with fail
          refine (HLI.out _).mono ?_
          rintro e w' ⟨rfl, rfl⟩
          go_wp2_with fail
          refine (HDG.out _).mono ?_
          rintro e w' ⟨rfl, rfl⟩
          go_wp2_with fail
          refine (HMU.out _).mono ?_
          rintro e w' ⟨rfl, rfl⟩
          go_wp2_with fail
          go_ret2
          exact PostD.mk0 HX.out HBT.out
        · rcases u with _ | ⟨c, u2⟩
          · exact absurd (HUN.out rfl) (by simp)
          have hs0 : 0 < rs.size := by rw [← HUS.out, bs_size]; simp
          have p0 : (0 : Int) < (rs.size : Int) := by omega
          have HG0 := Lib.hid (bs_head0 HUS.out hs0)
          have HDC := Lib.hid (fun w => rDigit_any (rs[0]) w)
          rw [show isD (rs[0]) = hdD (c :: u2) by rw [HG0.out]; rfl] at HDC
          clear HUN
          generalize hdD (c :: u2) = xc at *
          cases xc
          · have HX := Lib.hid (show debR l = none from HF.out)
            go_enter Tryz.func35, Tryz.ntmps35
            go_wp2_with fail
            refine (HC0.out _).mono ?_
            rintro e wt ⟨rfl, nd, hwt⟩
            have HBT := Lib.hid (show Below w.heap.size w wt by rw [hwt]; exact below_drewNV2 (Below.refl _ _) nd)
            clear hwt
            go_wp2_with fail
            refine (HLI.out _).mono ?_
            rintro e w' ⟨rfl, rfl⟩
            go_wp2_with fail
            refine (HDG.out _).mono ?_
            rintro e w' ⟨rfl, rfl⟩
            go_wp2_with fail
            refine (HMU.out _).mono ?_
            rintro e w' ⟨rfl, rfl⟩
            go_wp2_with fail
            refine (HDC.out _).mono ?_
            rintro e w' ⟨rfl, rfl⟩
            go_wp2_with fail
            go_ret2
            exact PostD.mk0 HX.out HBT.out
          · have HX := Lib.hid (show debR l = some [ep, c :: u2, rv] from HF.out)
            go_enter Tryz.func35, Tryz.ntmps35
            go_wp2_with fail
            refine (HC0.out _).mono ?_
            rintro e wt ⟨rfl, nd, hwt⟩
            have HBT := Lib.hid (show Below w.heap.size w wt by rw [hwt]; exact below_drewNV2 (Below.refl _ _) nd)
            clear hwt
            go_wp2_with fail
            refine (HLI.out _).mono ?_
            rintro e w' ⟨rfl, rfl⟩
            go_wp2_with fail
            refine (HDG.out _).mono ?_
            rintro e w' ⟨rfl, rfl⟩
            go_wp2_with fail
            refine (HMU.out _).mono ?_
            rintro e w' ⟨rfl, rfl⟩
            go_wp2_with fail
            refine (HDC.out _).mono ?_
            rintro e w' ⟨rfl, rfl⟩
            go_wp2_with fail
            go_ret2
            exact PostD.mk1 HX.out ((HBT.out).alloc HBT.out.size _) (.inr ⟨_, rfl, HBT.out.size, by refine (heap_alloc_new _ _).trans ?_; simp only [List.map_cons, List.map_nil, HUS.out, HRV.out, HEP.out]⟩)
    · obtain ⟨i, hi2⟩ : ∃ i : Nat, lastI 45 rest = (i : Int) := ⟨(lastI 45 rest).toNat, by omega⟩
      have hU : upsD rest = rest.take i := by unfold upsD; rw [if_neg hi, hi2]; rfl
      have hV : revD rest = rest.drop (i + 1) := by unfold revD; rw [if_neg hi, hi2]; rfl
      have hil : i < rest.length := by omega
      have q0 : (0 : Int) ≤ (i : Int) := by omega
      have q1 : (i : Int) ≤ (rs.size : Int) := by omega
      have q2 : (0 : Int) ≤ (i : Int) + 1 := by omega
      have q3 : (i : Int) + 1 ≤ (rs.size : Int) := by omega
      have q6 : decide ((i : Int) ≥ 0) = true := by simp
      have q4 : IntKind.i64.wrap ((i : Int) + 1) = (i : Int) + 1 := IntWalk.i64_in _ (by omega)
      have q5 : ((i : Int) + 1).toNat = i + 1 := by omega
      obtain ⟨u, hu⟩ : ∃ u, rest.take i = u := ⟨_, rfl⟩
      obtain ⟨rv, hrv⟩ : ∃ rv, rest.drop (i + 1) = rv := ⟨_, rfl⟩
      have HUS := Lib.hid (show bs u = rs.extract 0 i by rw [ht, hu])
      have HRV := Lib.hid (show bs rv = rs.extract (i + 1) rs.size by rw [hd, hrv])
      have hul : u.length ≤ 100000 := by rw [← hu, List.length_take]; omega
      have hvl : rv.length ≤ 100000 := by rw [← hrv, List.length_drop]; omega
      have HMV := Lib.hid (fun w => rMade_any [46, 43, 126] rv w hvl)
      rw [HRV.out] at HMV
      rw [hU, hV, hu, hrv] at HF0
      rw [hi2, hrs] at HLI
      rw [hi2] at HF0
      clear hi hrg hU hV hu hrv hsz ht hd hrl hil hvl hi2
      generalize madeB [46, 43, 126] rv = xv at *
      cases xv
      · have HX := Lib.hid (show debR l = none by rw [HF0.out, if_pos ⟨by omega, rfl⟩])
        go_enter Tryz.func35, Tryz.ntmps35
        go_wp2_with fail
        refine (HC0.out _).mono ?_
        rintro e wt ⟨rfl, nd, hwt⟩
        have HBT := Lib.hid (show Below w.heap.size w wt by rw [hwt]; exact below_drewNV2 (Below.refl _ _) nd)
        clear hwt
        go_wp2_with fail
        refine (HLI.out _).mono ?_
        rintro e w' ⟨rfl, rfl⟩
        go_wp2_with fail
        go_quiet (fail)
        go_wp2_with fail
        refine (HMV.out _).mono ?_
        rintro e w' ⟨rfl, rfl⟩
        go_wp2_with fail
        go_ret2
        exact PostD.mk0 HX.out (below_drewNV2 HBT.out _)
      · have HF := Lib.hid (show debR l = if (digs ep && (madeB [46, 43, 126, 45] u && hdD u)) = true then some [ep, u, rv] else none by rw [HF0.out, if_neg (by simp)])
        clear HF0
        obtain ⟨su, hsu⟩ : ∃ su, rs.extract 0 i = su := ⟨_, rfl⟩
        rw [hsu] at HUS
        have HDG := Lib.hid (fun w => rDigits_any ep w hel)
        rw [HEP.out] at HDG
        have HMU := Lib.hid (fun w => rMade_any [46, 43, 126, 45] u w hul)
        rw [HUS.out] at HMU
        have HUN := Lib.hid (show u = [] → madeB [46, 43, 126, 45] u = false by rintro rfl; rfl)
        generalize madeB [46, 43, 126, 45] u = xm at *
        generalize digs ep = xd at *
        cases xd
        · have HX := Lib.hid (show debR l = none from HF.out)
          go_enter Tryz.func35, Tryz.ntmps35
          go_wp2_with fail
          refine (HC0.out _).mono ?_
          rintro e wt ⟨rfl, nd, hwt⟩
          have HBT := Lib.hid (show Below w.heap.size w wt by rw [hwt]; exact below_drewNV2 (Below.refl _ _) nd)
          clear hwt
          go_wp2_with fail
          refine (HLI.out _).mono ?_
          rintro e w' ⟨rfl, rfl⟩
          go_wp2_with fail
          go_quiet (fail)
          go_wp2_with fail
          refine (HMV.out _).mono ?_
          rintro e w' ⟨rfl, rfl⟩
          go_wp2_with fail
          refine (HDG.out _).mono ?_
          rintro e w' ⟨rfl, rfl⟩
          go_wp2_with fail
          go_ret2
          exact PostD.mk0 HX.out (below_drewNV2 HBT.out _)
        · cases xm
          · have HX := Lib.hid (show debR l = none from HF.out)
            go_enter Tryz.func35, Tryz.ntmps35
            go_wp2_with fail
            refine (HC0.out _).mono ?_
            rintro e wt ⟨rfl, nd, hwt⟩
            have HBT := Lib.hid (show Below w.heap.size w wt by rw [hwt]; exact below_drewNV2 (Below.refl _ _) nd)
            clear hwt
            go_wp2_with fail
            refine (HLI.out _).mono ?_
            rintro e w' ⟨rfl, rfl⟩
            go_wp2_with fail
            go_quiet (fail)
            go_wp2_with fail
            refine (HMV.out _).mono ?_
            rintro e w' ⟨rfl, rfl⟩
            go_wp2_with fail
            refine (HDG.out _).mono ?_
            rintro e w' ⟨rfl, rfl⟩
            go_wp2_with fail
            refine (HMU.out _).mono ?_
            rintro e w' ⟨rfl, rfl⟩
            go_wp2_with fail
            go_ret2
            exact PostD.mk0 HX.out (below_drewNV2 HBT.out _)
          · rcases u with _ | ⟨c, u2⟩
            · exact absurd (HUN.out rfl) (by simp)
            have hs0 : 0 < su.size := by rw [← HUS.out, bs_size]; simp
            have p0 : (0 : Int) < (su.size : Int) := by omega
            have HG0 := Lib.hid (bs_head0 HUS.out hs0)
            have HDC := Lib.hid (fun w => rDigit_any (su[0]) w)
            rw [show isD (su[0]) = hdD (c :: u2) by rw [HG0.out]; rfl] at HDC
            clear HUN
            generalize hdD (c :: u2) = xc at *
            cases xc
            · have HX := Lib.hid (show debR l = none from HF.out)
              go_enter Tryz.func35, Tryz.ntmps35
              go_wp2_with fail
              refine (HC0.out _).mono ?_
              rintro e wt ⟨rfl, nd, hwt⟩
              have HBT := Lib.hid (show Below w.heap.size w wt by rw [hwt]; exact below_drewNV2 (Below.refl _ _) nd)
              clear hwt
              go_wp2_with fail
              refine (HLI.out _).mono ?_
              rintro e w' ⟨rfl, rfl⟩
              go_wp2_with fail
              go_quiet (fail)
              go_wp2_with fail
              refine (HMV.out _).mono ?_
              rintro e w' ⟨rfl, rfl⟩
              go_wp2_with fail
              refine (HDG.out _).mono ?_
              rintro e w' ⟨rfl, rfl⟩
              go_wp2_with fail
              refine (HMU.out _).mono ?_
              rintro e w' ⟨rfl, rfl⟩
              go_wp2_with fail
              refine (HDC.out _).mono ?_
              rintro e w' ⟨rfl, rfl⟩
              go_wp2_with fail
              go_ret2
              exact PostD.mk0 HX.out (below_drewNV2 HBT.out _)
            · have HX := Lib.hid (show debR l = some [ep, c :: u2, rv] from HF.out)
              go_enter Tryz.func35, Tryz.ntmps35
              go_wp2_with fail
              refine (HC0.out _).mono ?_
              rintro e wt ⟨rfl, nd, hwt⟩
              have HBT := Lib.hid (show Below w.heap.size w wt by rw [hwt]; exact below_drewNV2 (Below.refl _ _) nd)
              clear hwt
              go_wp2_with fail
              refine (HLI.out _).mono ?_
              rintro e w' ⟨rfl, rfl⟩
              go_wp2_with fail
              go_quiet (fail)
              go_wp2_with fail
              refine (HMV.out _).mono ?_
              rintro e w' ⟨rfl, rfl⟩
              go_wp2_with fail
              refine (HDG.out _).mono ?_
              rintro e w' ⟨rfl, rfl⟩
              go_wp2_with fail
              refine (HMU.out _).mono ?_
              rintro e w' ⟨rfl, rfl⟩
              go_wp2_with fail
              refine (HDC.out _).mono ?_
              rintro e w' ⟨rfl, rfl⟩
              go_wp2_with fail
              go_ret2
              exact PostD.mk1 HX.out (((below_drewNV2 HBT.out _)).alloc HBT.out.size _) (.inr ⟨_, rfl, HBT.out.size, by refine (heap_alloc_new _ _).trans ?_; simp only [List.map_cons, List.map_nil, HUS.out, HRV.out, HEP.out]⟩)
  · obtain ⟨ep, hep⟩ : ∃ ep : BL, c1 = ep := ⟨_, rfl⟩
    obtain ⟨rest, hrest⟩ : ∃ rest, c2 = rest := ⟨_, rfl⟩
    have HR2 := Lib.hid (show debR l = debR2 ep rest by rw [← hep, ← hrest]; exact HR0.out)
    have hel : ep.length ≤ 100000 := by rw [← hep]; omega
    have hrl : rest.length ≤ 100000 := by rw [← hrest]; omega
    rw [hep, hrest] at HC0
    clear hep hrest HR0 hcl0
    have HLI := Lib.hid (fun w => lastIndex_anyV 45 rest w hrl)
    have hrg : -1 ≤ lastI 45 rest ∧ lastI 45 rest < rest.length := lastK_rng 45 rest rest.length
    have HF0 := Lib.hid (show debR l = if 0 ≤ lastI 45 rest ∧ madeB [46, 43, 126] (revD rest) = false then none
      else if (digs ep && (madeB [46, 43, 126, 45] (upsD rest) && hdD (upsD rest))) = true then some [ep, upsD rest, revD rest] else none from HR2.out)
    obtain ⟨rs, hrs, -, hsz, ht, hd⟩ := bs_facts rest
    rw [hrs] at HC0
    by_cases hi : lastI 45 rest < 0
    · have hU : upsD rest = rest := if_pos hi
      have hV : revD rest = [] := if_pos hi
      have e1 : lastI 45 rest = -1 := by omega
      obtain ⟨u, hu⟩ : ∃ u, rest = u := ⟨_, rfl⟩
      obtain ⟨rv, hrv⟩ : ∃ rv : BL, [] = rv := ⟨_, rfl⟩
      have HF := Lib.hid (show debR l = if (digs ep && (madeB [46, 43, 126, 45] u && hdD u)) = true then some [ep, u, rv] else none by rw [HF0.out, if_neg (by intro h; omega), hU, hV, hu, hrv])
      have HRV := Lib.hid (show bs rv = ⟨#[]⟩ by rw [← hrv]; rfl)
      have HUS := Lib.hid (show bs u = rs by rw [← hu, hrs])
      have hul : u.length ≤ 100000 := by rw [← hu]; exact hrl
      rw [e1, hrs] at HLI
      clear hi hrg e1 hU hV hu hrv HF0 hsz ht hd hrl
      have HDG := Lib.hid (fun w => rDigits_any ep w hel)
      have HMU := Lib.hid (fun w => rMade_any [46, 43, 126, 45] u w hul)
      rw [HUS.out] at HMU
      have HUN := Lib.hid (show u = [] → madeB [46, 43, 126, 45] u = false by rintro rfl; rfl)
      generalize madeB [46, 43, 126, 45] u = xm at *
      generalize digs ep = xd at *
      cases xd
      · have HX := Lib.hid (show debR l = none from HF.out)
        go_enter Tryz.func35, Tryz.ntmps35
        go_wp2_with fail
        refine (HC0.out _).mono ?_
        rintro e wt ⟨rfl, nd, hwt⟩
        have HBT := Lib.hid (show Below w.heap.size w wt by rw [hwt]; exact below_drewNV2 (Below.refl _ _) nd)
        clear hwt
        go_wp2_with fail
        refine (HLI.out _).mono ?_
        rintro e w' ⟨rfl, rfl⟩
        go_wp2_with fail
        refine (HDG.out _).mono ?_
        rintro e w' ⟨rfl, rfl⟩
        go_wp2_with fail
        go_ret2
        exact PostD.mk0 HX.out HBT.out
      · cases xm
        · have HX := Lib.hid (show debR l = none from HF.out)
          go_enter Tryz.func35, Tryz.ntmps35
          go_wp2_with fail
          refine (HC0.out _).mono ?_
          rintro e wt ⟨rfl, nd, hwt⟩
          have HBT := Lib.hid (show Below w.heap.size w wt by rw [hwt]; exact below_drewNV2 (Below.refl _ _) nd)
          clear hwt
          go_wp2_with fail
          refine (HLI.out _).mono ?_
          rintro e w' ⟨rfl, rfl⟩
          go_wp2_with fail
          refine (HDG.out _).mono ?_
          rintro e w' ⟨rfl, rfl⟩
          go_wp2_with fail
          refine (HMU.out _).mono ?_
          rintro e w' ⟨rfl, rfl⟩
          go_wp2_with fail
          go_ret2
          exact PostD.mk0 HX.out HBT.out
        · rcases u with _ | ⟨c, u2⟩
          · exact absurd (HUN.out rfl) (by simp)
          have hs0 : 0 < rs.size := by rw [← HUS.out, bs_size]; simp
          have p0 : (0 : Int) < (rs.size : Int) := by omega
          have HG0 := Lib.hid (bs_head0 HUS.out hs0)
          have HDC := Lib.hid (fun w => rDigit_any (rs[0]) w)
          rw [show isD (rs[0]) = hdD (c :: u2) by rw [HG0.out]; rfl] at HDC
          clear HUN
          generalize hdD (c :: u2) = xc at *
          cases xc
          · have HX := Lib.hid (show debR l = none from HF.out)
            go_enter Tryz.func35, Tryz.ntmps35
            go_wp2_with fail
            refine (HC0.out _).mono ?_
            rintro e wt ⟨rfl, nd, hwt⟩
            have HBT := Lib.hid (show Below w.heap.size w wt by rw [hwt]; exact below_drewNV2 (Below.refl _ _) nd)
            clear hwt
            go_wp2_with fail
            refine (HLI.out _).mono ?_
            rintro e w' ⟨rfl, rfl⟩
            go_wp2_with fail
            refine (HDG.out _).mono ?_
            rintro e w' ⟨rfl, rfl⟩
            go_wp2_with fail
            refine (HMU.out _).mono ?_
            rintro e w' ⟨rfl, rfl⟩
            go_wp2_with fail
            refine (HDC.out _).mono ?_
            rintro e w' ⟨rfl, rfl⟩
            go_wp2_with fail
            go_ret2
            exact PostD.mk0 HX.out HBT.out
          · have HX := Lib.hid (show debR l = some [ep, c :: u2, rv] from HF.out)
            go_enter Tryz.func35, Tryz.ntmps35
            go_wp2_with fail
            refine (HC0.out _).mono ?_
            rintro e wt ⟨rfl, nd, hwt⟩
            have HBT := Lib.hid (show Below w.heap.size w wt by rw [hwt]; exact below_drewNV2 (Below.refl _ _) nd)
            clear hwt
            go_wp2_with fail
            refine (HLI.out _).mono ?_
            rintro e w' ⟨rfl, rfl⟩
            go_wp2_with fail
            refine (HDG.out _).mono ?_
            rintro e w' ⟨rfl, rfl⟩
            go_wp2_with fail
            refine (HMU.out _).mono ?_
            rintro e w' ⟨rfl, rfl⟩
            go_wp2_with fail
            refine (HDC.out _).mono ?_
            rintro e w' ⟨rfl, rfl⟩
            go_wp2_with fail
            go_ret2
            exact PostD.mk1 HX.out ((HBT.out).alloc HBT.out.size _) (.inr ⟨_, rfl, HBT.out.size, by refine (heap_alloc_new _ _).trans ?_; simp only [List.map_cons, List.map_nil, HUS.out, HRV.out]⟩)
    · obtain ⟨i, hi2⟩ : ∃ i : Nat, lastI 45 rest = (i : Int) := ⟨(lastI 45 rest).toNat, by omega⟩
      have hU : upsD rest = rest.take i := by unfold upsD; rw [if_neg hi, hi2]; rfl
      have hV : revD rest = rest.drop (i + 1) := by unfold revD; rw [if_neg hi, hi2]; rfl
      have hil : i < rest.length := by omega
      have q0 : (0 : Int) ≤ (i : Int) := by omega
      have q1 : (i : Int) ≤ (rs.size : Int) := by omega
      have q2 : (0 : Int) ≤ (i : Int) + 1 := by omega
      have q3 : (i : Int) + 1 ≤ (rs.size : Int) := by omega
      have q6 : decide ((i : Int) ≥ 0) = true := by simp
      have q4 : IntKind.i64.wrap ((i : Int) + 1) = (i : Int) + 1 := IntWalk.i64_in _ (by omega)
      have q5 : ((i : Int) + 1).toNat = i + 1 := by omega
      obtain ⟨u, hu⟩ : ∃ u, rest.take i = u := ⟨_, rfl⟩
      obtain ⟨rv, hrv⟩ : ∃ rv, rest.drop (i + 1) = rv := ⟨_, rfl⟩
      have HUS := Lib.hid (show bs u = rs.extract 0 i by rw [ht, hu])
      have HRV := Lib.hid (show bs rv = rs.extract (i + 1) rs.size by rw [hd, hrv])
      have hul : u.length ≤ 100000 := by rw [← hu, List.length_take]; omega
      have hvl : rv.length ≤ 100000 := by rw [← hrv, List.length_drop]; omega
      have HMV := Lib.hid (fun w => rMade_any [46, 43, 126] rv w hvl)
      rw [HRV.out] at HMV
      rw [hU, hV, hu, hrv] at HF0
      rw [hi2, hrs] at HLI
      rw [hi2] at HF0
      clear hi hrg hU hV hu hrv hsz ht hd hrl hil hvl hi2
      generalize madeB [46, 43, 126] rv = xv at *
      cases xv
      · have HX := Lib.hid (show debR l = none by rw [HF0.out, if_pos ⟨by omega, rfl⟩])
        go_enter Tryz.func35, Tryz.ntmps35
        go_wp2_with fail
        refine (HC0.out _).mono ?_
        rintro e wt ⟨rfl, nd, hwt⟩
        have HBT := Lib.hid (show Below w.heap.size w wt by rw [hwt]; exact below_drewNV2 (Below.refl _ _) nd)
        clear hwt
        go_wp2_with fail
        refine (HLI.out _).mono ?_
        rintro e w' ⟨rfl, rfl⟩
        go_wp2_with fail
        go_quiet (fail)
        go_wp2_with fail
        refine (HMV.out _).mono ?_
        rintro e w' ⟨rfl, rfl⟩
        go_wp2_with fail
        go_ret2
        exact PostD.mk0 HX.out (below_drewNV2 HBT.out _)
      · have HF := Lib.hid (show debR l = if (digs ep && (madeB [46, 43, 126, 45] u && hdD u)) = true then some [ep, u, rv] else none by rw [HF0.out, if_neg (by simp)])
        clear HF0
        obtain ⟨su, hsu⟩ : ∃ su, rs.extract 0 i = su := ⟨_, rfl⟩
        rw [hsu] at HUS
        have HDG := Lib.hid (fun w => rDigits_any ep w hel)
        have HMU := Lib.hid (fun w => rMade_any [46, 43, 126, 45] u w hul)
        rw [HUS.out] at HMU
        have HUN := Lib.hid (show u = [] → madeB [46, 43, 126, 45] u = false by rintro rfl; rfl)
        generalize madeB [46, 43, 126, 45] u = xm at *
        generalize digs ep = xd at *
        cases xd
        · have HX := Lib.hid (show debR l = none from HF.out)
          go_enter Tryz.func35, Tryz.ntmps35
          go_wp2_with fail
          refine (HC0.out _).mono ?_
          rintro e wt ⟨rfl, nd, hwt⟩
          have HBT := Lib.hid (show Below w.heap.size w wt by rw [hwt]; exact below_drewNV2 (Below.refl _ _) nd)
          clear hwt
          go_wp2_with fail
          refine (HLI.out _).mono ?_
          rintro e w' ⟨rfl, rfl⟩
          go_wp2_with fail
          go_quiet (fail)
          go_wp2_with fail
          refine (HMV.out _).mono ?_
          rintro e w' ⟨rfl, rfl⟩
          go_wp2_with fail
          refine (HDG.out _).mono ?_
          rintro e w' ⟨rfl, rfl⟩
          go_wp2_with fail
          go_ret2
          exact PostD.mk0 HX.out (below_drewNV2 HBT.out _)
        · cases xm
          · have HX := Lib.hid (show debR l = none from HF.out)
            go_enter Tryz.func35, Tryz.ntmps35
            go_wp2_with fail
            refine (HC0.out _).mono ?_
            rintro e wt ⟨rfl, nd, hwt⟩
            have HBT := Lib.hid (show Below w.heap.size w wt by rw [hwt]; exact below_drewNV2 (Below.refl _ _) nd)
            clear hwt
            go_wp2_with fail
            refine (HLI.out _).mono ?_
            rintro e w' ⟨rfl, rfl⟩
            go_wp2_with fail
            go_quiet (fail)
            go_wp2_with fail
            refine (HMV.out _).mono ?_
            rintro e w' ⟨rfl, rfl⟩
            go_wp2_with fail
            refine (HDG.out _).mono ?_
            rintro e w' ⟨rfl, rfl⟩
            go_wp2_with fail
            refine (HMU.out _).mono ?_
            rintro e w' ⟨rfl, rfl⟩
            go_wp2_with fail
            go_ret2
            exact PostD.mk0 HX.out (below_drewNV2 HBT.out _)
          · rcases u with _ | ⟨c, u2⟩
            · exact absurd (HUN.out rfl) (by simp)
            have hs0 : 0 < su.size := by rw [← HUS.out, bs_size]; simp
            have p0 : (0 : Int) < (su.size : Int) := by omega
            have HG0 := Lib.hid (bs_head0 HUS.out hs0)
            have HDC := Lib.hid (fun w => rDigit_any (su[0]) w)
            rw [show isD (su[0]) = hdD (c :: u2) by rw [HG0.out]; rfl] at HDC
            clear HUN
            generalize hdD (c :: u2) = xc at *
            cases xc
            · have HX := Lib.hid (show debR l = none from HF.out)
              go_enter Tryz.func35, Tryz.ntmps35
              go_wp2_with fail
              refine (HC0.out _).mono ?_
              rintro e wt ⟨rfl, nd, hwt⟩
              have HBT := Lib.hid (show Below w.heap.size w wt by rw [hwt]; exact below_drewNV2 (Below.refl _ _) nd)
              clear hwt
              go_wp2_with fail
              refine (HLI.out _).mono ?_
              rintro e w' ⟨rfl, rfl⟩
              go_wp2_with fail
              go_quiet (fail)
              go_wp2_with fail
              refine (HMV.out _).mono ?_
              rintro e w' ⟨rfl, rfl⟩
              go_wp2_with fail
              refine (HDG.out _).mono ?_
              rintro e w' ⟨rfl, rfl⟩
              go_wp2_with fail
              refine (HMU.out _).mono ?_
              rintro e w' ⟨rfl, rfl⟩
              go_wp2_with fail
              refine (HDC.out _).mono ?_
              rintro e w' ⟨rfl, rfl⟩
              go_wp2_with fail
              go_ret2
              exact PostD.mk0 HX.out (below_drewNV2 HBT.out _)
            · have HX := Lib.hid (show debR l = some [ep, c :: u2, rv] from HF.out)
              go_enter Tryz.func35, Tryz.ntmps35
              go_wp2_with fail
              refine (HC0.out _).mono ?_
              rintro e wt ⟨rfl, nd, hwt⟩
              have HBT := Lib.hid (show Below w.heap.size w wt by rw [hwt]; exact below_drewNV2 (Below.refl _ _) nd)
              clear hwt
              go_wp2_with fail
              refine (HLI.out _).mono ?_
              rintro e w' ⟨rfl, rfl⟩
              go_wp2_with fail
              go_quiet (fail)
              go_wp2_with fail
              refine (HMV.out _).mono ?_
              rintro e w' ⟨rfl, rfl⟩
              go_wp2_with fail
              refine (HDG.out _).mono ?_
              rintro e w' ⟨rfl, rfl⟩
              go_wp2_with fail
              refine (HMU.out _).mono ?_
              rintro e w' ⟨rfl, rfl⟩
              go_wp2_with fail
              refine (HDC.out _).mono ?_
              rintro e w' ⟨rfl, rfl⟩
              go_wp2_with fail
              go_ret2
              exact PostD.mk1 HX.out (((below_drewNV2 HBT.out _)).alloc HBT.out.size _) (.inr ⟨_, rfl, HBT.out.size, by refine (heap_alloc_new _ _).trans ?_; simp only [List.map_cons, List.map_nil, HUS.out, HRV.out]⟩)
end Go.Proofs.YtceeilojcifgeaaGreatDoor
