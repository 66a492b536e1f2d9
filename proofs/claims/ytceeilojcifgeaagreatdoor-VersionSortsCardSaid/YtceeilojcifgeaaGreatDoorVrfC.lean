/-
  Versions, the reference: the walk of semver (strings of at most 100000 bytes).
-/
import Derived.Test.YtceeilojcifgeaaGreatDoorVrfB
namespace Go.Proofs.YtceeilojcifgeaaGreatDoor
open Go.RowKit

theorem ret3V {a b c a' b' c' : Value} (h1 : a = a') (h2 : b = b') (h3 : c = c') : Ending.returned (.tuple #[a, b, c]) = .returned (.tuple #[a', b', c']) := by rw [h1, h2, h3]
theorem cutL_len (c : UInt8) : ∀ l : BL, (cutL c l).1.length ≤ l.length ∧ (cutL c l).2.1.length ≤ l.length
  | [] => by simp [cutL]
  | b :: l => by
    have := cutL_len c l
    unfold cutL
    split
    · simp
    · simp only [List.length_cons]; omega
theorem spl_len (c : UInt8) : ∀ (l : BL), ∀ p ∈ spl c l, p.length ≤ l.length
  | [], p, h => by rw [show spl c [] = [[]] from rfl, List.mem_singleton] at h; subst h; simp
  | b :: l, p, h => by
    have ih := spl_len c l
    unfold spl at h
    split at h
    · rcases List.mem_cons.1 h with rfl | h
      · simp
      · have := ih p h; simp; omega
    · split at h
      · rw [List.mem_singleton] at h; subst h; simp
      · rename_i q qs hq
        rcases List.mem_cons.1 h with rfl | h
        · have := ih q (by rw [hq]; simp); simp; omega
        · have := ih p (by rw [hq]; simp [h]); simp; omega
theorem spl_count (c : UInt8) : ∀ (l : BL), (spl c l).length ≤ l.length + 1
  | [] => by simp [spl]
  | b :: l => by
    have ih := spl_count c l
    unfold spl
    split
    · simp; omega
    · split
      · simp
      · rename_i q qs hq; rw [hq] at ih; simp at ih ⊢; omega
/-- a row of strings that the call has made -/
def RowS (B : Nat) (w : World) (v : Value) (ls : List BL) : Prop := (v = .slice none 0 0 ∧ ls = []) ∨ ∃ g, v = .slice (some ⟨g, 0, none⟩) ls.length ls.length ∧ B ≤ g ∧ w.heap[g]? = some (.cells (ls.map (fun p => Value.string (bs p))).toArray 9 (0, 0))
theorem row_cell {w : World} {g : Nat} {ls : List BL} (h : w.heap[g]? = some (.cells (ls.map (fun p => Value.string (bs p))).toArray 9 (0, 0))) (i : Nat) (hi : i < ls.length) : w.cell? ⟨g, i, none⟩ = some (.string (bs ls[i])) := by
  rw [cell_of_row w g i _ _ _ h]; simp [hi]
theorem below_drewNV2 {B : Nat} {a w : World} (h : Below B a w) (n : Nat) : Below B a (w.drewN n) := ⟨h.os, h.tape, h.output, h.size, h.block⟩
theorem all_no {p : BL → Bool} {ls : List BL} {i : Nat} (h : i < ls.length) (h2 : p ls[i] = false) : ls.all p = false := by
  cases h3 : ls.all p
  · rfl
  · exact absurd (List.all_eq_true.1 h3 _ (List.getElem_mem h)) (by rw [h2]; simp)
theorem all_snoc {p : BL → Bool} {ls : List BL} {i : Nat} (h : i < ls.length) (h1 : (ls.take i).all p = true) (h2 : p ls[i] = true) : (ls.take (i + 1)).all p = true := by
  rw [List.take_succ_eq_append_getElem h, List.all_append, h1]; simp [h2]
/-- an identifier of a prerelease, as the reference checks it -/
def idOK (w : BL) : Bool := madeB [45] w && (!(digs w) || numB w)
def semT (core : BL) (ids : List BL) : Option (List BL × List BL) := match spl 46 core with
  | [a, b, c] => if (numB a && (numB b && numB c)) = true then some ([a, b, c], ids) else none
  | _ => none
def semP (body : BL) : Option (List BL × List BL) := if (cutL 45 body).2.2 = true then (if (spl 46 (cutL 45 body).2.1).all idOK = true then semT (cutL 45 body).1 (spl 46 (cutL 45 body).2.1) else none) else semT (cutL 45 body).1 []
/-- the parts of a semantic version, as the reference reads them -/
def semR (l : BL) : Option (List BL × List BL) := if (cutL 43 l).2.2 = true then (if (spl 46 (cutL 43 l).2.1).all (madeB [45]) = true then semP (cutL 43 l).1 else none) else semP (cutL 43 l).1
def PostS (B : Nat) (w : World) (o : Option (List BL × List BL)) (e : Ending) (w' : World) : Prop := Below B w w' ∧ match o with
  | none => e = .returned (.tuple #[.slice none 0 0, .slice none 0 0, .bool false])
  | some p => ∃ v u, e = .returned (.tuple #[v, u, .bool true]) ∧ RowS B w' v p.1 ∧ RowS B w' u p.2
theorem PostS.mk0 {B : Nat} {w w' : World} {o : Option (List BL × List BL)} (ho : o = none) (hb : Below B w w') : PostS B w o (.returned (.tuple #[.slice none 0 0, .slice none 0 0, .bool false])) w' := by
  subst ho; exact ⟨hb, rfl⟩
theorem PostS.mk1 {B : Nat} {w w' : World} {o : Option (List BL × List BL)} {a b : List BL} {v u : Value} (ho : o = some (a, b)) (hb : Below B w w') (h1 : RowS B w' v a) (h2 : RowS B w' u b) : PostS B w o (.returned (.tuple #[v, u, .bool true])) w' := by
  subst ho; exact ⟨hb, v, u, rfl, h1, h2⟩
theorem row_new (w : World) (ls : List BL) : (w.alloc (.cells (ls.map (fun p => Value.string (bs p))).toArray 9)).heap[w.heap.size]? = some (.cells (ls.map (fun p => Value.string (bs p))).toArray 9 (0, 0)) := heap_alloc_new w _
theorem row_keep {w w' : World} {g : Nat} {o : Obj} (h : w.heap[g]? = some o) (hb : Below w.heap.size w w') : w'.heap[g]? = some o := (hb.block g (Array.getElem?_eq_some_iff.1 h).1).trans h
set_option maxRecDepth 100000 in
set_option maxHeartbeats 8000000 in
theorem rSemver_any (l : BL) (w : World) (hl : l.length ≤ 100000) :
    Calls Tryz.prog 34 #[.string (bs l)] w (PostS w.heap.size w (semR l)) := by
  have HC0 := Lib.hid (fun w => cut_anyV 43 l w hl)
  have hcl0 := cutL_len 43 l
  have HSR := Lib.hid (show semR l = if (cutL 43 l).2.2 = true then (if (spl 46 (cutL 43 l).2.1).all (madeB [45]) = true then semP (cutL 43 l).1 else none) else semP (cutL 43 l).1 from rfl)
  generalize cutL 43 l = c0 at *
  obtain ⟨body, bld, more⟩ := c0
  dsimp only at HC0 hcl0 HSR
  have hbl : body.length ≤ 100000 := by omega
  have hll : bld.length ≤ 100000 := by omega
  clear hcl0 hl
  cases more
  · have HSP0 := Lib.hid (show semR l = semP body from HSR.out)
    clear hll
    go_enter Tryz.func34, Tryz.ntmps34
    go_wp2_with fail
    refine (HC0.out _).mono ?_
    rintro e wp ⟨rfl, nd, hwp⟩
    have HBP := Lib.hid (show Below w.heap.size w wp by rw [hwp]; exact below_drewNV2 (Below.refl _ _) nd)
    clear hwp
    have HCU := Lib.hid (fun w => cut_anyV 45 body w hbl)
    have hcl2 := cutL_len 45 body
    have HSM := Lib.hid (show semP body = if (cutL 45 body).2.2 = true then (if (spl 46 (cutL 45 body).2.1).all idOK = true then semT (cutL 45 body).1 (spl 46 (cutL 45 body).2.1) else none) else semT (cutL 45 body).1 [] from rfl)
    generalize cutL 45 body = cc at *
    obtain ⟨core, pre, has⟩ := cc
    dsimp only at HCU hcl2 HSM
    have hcl : core.length ≤ 100000 := by omega
    have hpl : pre.length ≤ 100000 := by omega
    clear hcl2 hbl
    cases has
    · have HSEM := Lib.hid (show semR l = semT core [] by rw [HSP0.out]; exact HSM.out)
      clear hpl
      go_wp2_with fail
      refine (HCU.out _).mono ?_
      rintro e wt ⟨rfl, nd, hwt⟩
      have HBT := Lib.hid (show Below w.heap.size w wt by rw [hwt]; exact below_drewNV2 HBP.out nd)
      clear hwt
      have HSP := Lib.hid (fun w => split_rowV 46 core w hcl)
      have HNB := Lib.hid (fun (p : BL) (w : World) (h : p.length ≤ 100000) => rNumber_any p w h)
      have hn3 : (∃ a b c, spl 46 core = [a, b, c]) ∨ (spl 46 core).length ≠ 3 := by
        rcases hs : spl 46 core with _ | ⟨a, _ | ⟨b, _ | ⟨c, _ | ⟨d, r⟩⟩⟩⟩
        · exact .inr (by simp)
        · exact .inr (by simp)
        · exact .inr (by simp)
        · exact .inl ⟨a, b, c, rfl⟩
        · exact .inr (by simp)
      rcases hn3 with ⟨a, b, c, h3⟩ | h3
      · have ha := spl_len 46 core a (by rw [h3]; simp)
        have hb := spl_len 46 core b (by rw [h3]; simp)
        have hc := spl_len 46 core c (by rw [h3]; simp)
        have HS2 := Lib.hid (show semT core [] = if (numB a && (numB b && numB c)) = true then some ([a, b, c], []) else none by unfold semT; rw [h3])
        have HROW := Lib.hid (row_new wt [a, b, c])
        have HBN := Lib.hid (show Below w.heap.size w (wt.alloc (.cells ([a, b, c].map (fun p => Value.string (bs p))).toArray 9)) from HBT.out.alloc HBT.out.size _)
        have HN0 := Lib.hid (fun w => HNB.out a w (by omega)); have HN1 := Lib.hid (fun w => HNB.out b w (by omega)); have HN2 := Lib.hid (fun w => HNB.out c w (by omega))
        have c0 : (wt.alloc (.cells ([a, b, c].map (fun p => Value.string (bs p))).toArray 9)).cell? ⟨wt.heap.size, 0, none⟩ = some (.string (bs a)) := row_cell (row_new wt [a, b, c]) 0 (by simp)
        have c1 : (wt.alloc (.cells ([a, b, c].map (fun p => Value.string (bs p))).toArray 9)).cell? ⟨wt.heap.size, 1, none⟩ = some (.string (bs b)) := row_cell (row_new wt [a, b, c]) 1 (by simp)
        have c2 : (wt.alloc (.cells ([a, b, c].map (fun p => Value.string (bs p))).toArray 9)).cell? ⟨wt.heap.size, 2, none⟩ = some (.string (bs c)) := row_cell (row_new wt [a, b, c]) 2 (by simp)
        rw [h3] at HSP
        have HSP2 := Lib.hid (show Calls Tryz.prog 36 #[.string (bs core), .string (oneB 46)] wt (fun e w' => e = .returned (.slice (some ⟨wt.heap.size, 0, none⟩) 3 3) ∧ w' = wt.alloc (.cells ([a, b, c].map (fun p => Value.string (bs p))).toArray 9)) from HSP.out wt)
        generalize hwn : wt.alloc (.cells ([a, b, c].map (fun p => Value.string (bs p))).toArray 9) = wn at *
        have HKN := Lib.hid (show Below wt.heap.size wt wn by rw [← hwn]; exact (Below.refl _ _).alloc (Nat.le_refl _) _)
        generalize hgn : wt.heap.size = gn at *
        have hgb : w.heap.size ≤ gn := by rw [← hgn]; exact HBT.out.size
        clear hwn h3 ha hb hc hcl HSP
        generalize numB a = xa at *
        generalize numB b = xb at *
        generalize numB c = xc at *
        generalize bs a = sa at *
        generalize bs b = sb at *
        generalize bs c = sc at *
        cases xa
        · have HX := Lib.hid (show semR l = none by rw [HSEM.out]; exact HS2.out)
          go_wp2_with fail
          refine HSP2.out.mono ?_
          rintro e w' ⟨rfl, rfl⟩
          go_wp2_with fail
          refine (HN0.out _).mono ?_
          rintro e w' ⟨rfl, rfl⟩
          go_wp2_with fail
          go_ret3
          exact PostS.mk0 HX.out HBN.out
        · cases xb
          · have HX := Lib.hid (show semR l = none by rw [HSEM.out]; exact HS2.out)
            go_wp2_with fail
            refine HSP2.out.mono ?_
            rintro e w' ⟨rfl, rfl⟩
            go_wp2_with fail
            refine (HN0.out _).mono ?_
            rintro e w' ⟨rfl, rfl⟩
            go_wp2_with fail
            refine (HN1.out _).mono ?_
            rintro e w' ⟨rfl, rfl⟩
            go_wp2_with fail
            go_ret3
            exact PostS.mk0 HX.out HBN.out
          · cases xc
            · have HX := Lib.hid (show semR l = none by rw [HSEM.out]; exact HS2.out)
              go_wp2_with fail
              refine HSP2.out.mono ?_
              rintro e w' ⟨rfl, rfl⟩
              go_wp2_with fail
              refine (HN0.out _).mono ?_
              rintro e w' ⟨rfl, rfl⟩
              go_wp2_with fail
              refine (HN1.out _).mono ?_
              rintro e w' ⟨rfl, rfl⟩
              go_wp2_with fail
              refine (HN2.out _).mono ?_
              rintro e w' ⟨rfl, rfl⟩
              go_wp2_with fail
              go_ret3
              exact PostS.mk0 HX.out HBN.out
            · have HX := Lib.hid (show semR l = some ([a, b, c], []) by rw [HSEM.out]; exact HS2.out)
              go_wp2_with fail
              refine HSP2.out.mono ?_
              rintro e w' ⟨rfl, rfl⟩
              go_wp2_with fail
              refine (HN0.out _).mono ?_
              rintro e w' ⟨rfl, rfl⟩
              go_wp2_with fail
              refine (HN1.out _).mono ?_
              rintro e w' ⟨rfl, rfl⟩
              go_wp2_with fail
              refine (HN2.out _).mono ?_
              rintro e w' ⟨rfl, rfl⟩
              go_wp2_with fail
              go_ret3
              exact PostS.mk1 HX.out HBN.out (.inr ⟨gn, rfl, hgb, HROW.out⟩) (.inl ⟨rfl, rfl⟩)
      · have HX := Lib.hid (show semR l = none by
          rw [HSEM.out]; unfold semT
          rcases hs : spl 46 core with _ | ⟨a, _ | ⟨b, _ | ⟨c, _ | ⟨d, r⟩⟩⟩⟩ <;> first | rfl | (exfalso; rw [hs] at h3; exact h3 rfl))
        have HBN := Lib.hid (show Below w.heap.size w (wt.alloc (.cells ((spl 46 core).map (fun p => Value.string (bs p))).toArray 9)) from HBT.out.alloc HBT.out.size _)
        have h3d : (((spl 46 core).length : Int) != 3) = true := by rw [bne_iff_ne]; omega
        have HSP2 := Lib.hid (HSP.out wt)
        generalize (spl 46 core).length = n3 at *
        clear h3 hcl HSP
        go_wp2_with fail
        refine HSP2.out.mono ?_
        rintro e w' ⟨rfl, rfl⟩
        go_wp2_with fail
        go_ret3
        exact PostS.mk0 HX.out HBN.out
    · have HSM2 := Lib.hid (show semR l = if (spl 46 pre).all idOK = true then semT core (spl 46 pre) else none by rw [HSP0.out]; exact HSM.out)
      have HSPP := Lib.hid (fun w => split_rowV 46 pre w hpl)
      have HPL := Lib.hid (fun p hp => Nat.le_trans (spl_len 46 pre p hp) hpl)
      have hpc : (spl 46 pre).length ≤ 100001 := by have := spl_count 46 pre; omega
      go_wp2_with fail
      refine (HCU.out _).mono ?_
      rintro e wq ⟨rfl, nd, hwq⟩
      have HBQ := Lib.hid (show Below w.heap.size w wq by rw [hwq]; exact below_drewNV2 HBP.out nd)
      clear hwq hpl
      generalize spl 46 pre = ps at *
      go_wp2_with fail
      refine (HSPP.out _).mono ?_
      rintro e wt ⟨rfl, hwt⟩
      have HROWP := Lib.hid (show wt.heap[wq.heap.size]? = some (.cells (ps.map (fun p => Value.string (bs p))).toArray 9 (0, 0)) by rw [hwt]; exact row_new wq ps)
      have HBT := Lib.hid (show Below w.heap.size w wt by rw [hwt]; exact HBQ.out.alloc HBQ.out.size _)
      have hgp : w.heap.size ≤ wq.heap.size := HBQ.out.size
      clear hwt
      generalize wq.heap.size = gp at *
      obtain ⟨np, hnp⟩ : ∃ np, ps.length = np := ⟨_, rfl⟩
      have HNP := Lib.hid hnp
      rw [hnp] at hpc ⊢
      clear hnp
      go_wp2_with fail
      go_loop [14] (fun i => ∃ j : Nat, j ≤ np ∧ i = .int .i64 j ∧ Hid ((ps.take j).all idOK = true)) (fun i => np - (intOf i).toNat)
      case atStart => exact ⟨0, Nat.zero_le _, rfl, by rw [List.take_zero]; rfl⟩
      case round =>
        obtain ⟨j, hj, rfl, HA⟩ := hrel
        by_cases hlt : j < np
        · have hjl : j < ps.length := by have := HNP.out; omega
          have hd : decide ((j : Int) < (np : Int)) = true := by simp; omega
          have q0 : (0 : Int) ≤ (j : Int) := by omega
          have q1 : (j : Int) < (np : Int) := by omega
          have hcj := row_cell HROWP.out j hjl
          have HPJ := HPL.out ps[j] (List.getElem_mem hjl)
          have HMD := Lib.hid (fun w => rMade_any [45] ps[j] w HPJ)
          have HDG := Lib.hid (fun w => rDigits_any ps[j] w HPJ)
          have HNB := Lib.hid (fun w => rNumber_any ps[j] w HPJ)
          have HIE : Hid (idOK ps[j] = (madeB [45] ps[j] && (!(digs ps[j]) || numB ps[j]))) := rfl
          have NXT := Lib.hid (fun h : idOK ps[j] = true => all_snoc hjl HA.out h)
          have NOT := Lib.hid (fun h : idOK ps[j] = false => (show semR l = none by rw [HSM2.out, all_no hjl h]; rfl))
          generalize idOK ps[j] = k at *
          generalize madeB [45] ps[j] = xm at *
          generalize digs ps[j] = xd at *
          generalize numB ps[j] = xn at *
          generalize bs ps[j] = sj at *
          cases xm
          · have HX := Lib.hid (NOT.out (by rw [HIE.out]; rfl))
            clear NXT NOT
            go_wp2_with fail
            refine (HMD.out _).mono ?_
            rintro e w' ⟨rfl, rfl⟩
            go_wp2_with fail
            go_ret3
            exact PostS.mk0 HX.out HBT.out
          · cases xd
            · have HX := Lib.hid (NXT.out (by rw [HIE.out]; rfl))
              clear NXT NOT
              go_wp2_with fail
              refine (HMD.out _).mono ?_
              rintro e w' ⟨rfl, rfl⟩
              go_wp2_with fail
              refine (HDG.out _).mono ?_
              rintro e w' ⟨rfl, rfl⟩
              go_wp2_with fail
              go_round
              case rel => exact ⟨j + 1, by omega, by go_num, HX.out⟩
              case measure => simp [intOf]; omega
            · cases xn
              · have HX := Lib.hid (NOT.out (by rw [HIE.out]; rfl))
                clear NXT NOT
                go_wp2_with fail
                refine (HMD.out _).mono ?_
                rintro e w' ⟨rfl, rfl⟩
                go_wp2_with fail
                refine (HDG.out _).mono ?_
                rintro e w' ⟨rfl, rfl⟩
                go_wp2_with fail
                refine (HNB.out _).mono ?_
                rintro e w' ⟨rfl, rfl⟩
                go_wp2_with fail
                go_ret3
                exact PostS.mk0 HX.out HBT.out
              · have HX := Lib.hid (NXT.out (by rw [HIE.out]; rfl))
                clear NXT NOT
                go_wp2_with fail
                refine (HMD.out _).mono ?_
                rintro e w' ⟨rfl, rfl⟩
                go_wp2_with fail
                refine (HDG.out _).mono ?_
                rintro e w' ⟨rfl, rfl⟩
                go_wp2_with fail
                refine (HNB.out _).mono ?_
                rintro e w' ⟨rfl, rfl⟩
                go_wp2_with fail
                go_round
                case rel => exact ⟨j + 1, by omega, by go_num, HX.out⟩
                case measure => simp [intOf]; omega
        · obtain rfl : j = np := by omega
          have hd : decide ((j : Int) < (j : Int)) = false := by simp
          have HALL := Lib.hid (show ps.all idOK = true by have := HA.out; rw [← HNP.out, List.take_length] at this; exact this)
          have HSEM := Lib.hid (show semR l = semT core ps by rw [HSM2.out, HALL.out]; rfl)
          clear hlt
          have HSP := Lib.hid (fun w => split_rowV 46 core w hcl)
          have HNB := Lib.hid (fun (p : BL) (w : World) (h : p.length ≤ 100000) => rNumber_any p w h)
          have hn3 : (∃ a b c, spl 46 core = [a, b, c]) ∨ (spl 46 core).length ≠ 3 := by
            rcases hs : spl 46 core with _ | ⟨a, _ | ⟨b, _ | ⟨c, _ | ⟨d, r⟩⟩⟩⟩
            · exact .inr (by simp)
            · exact .inr (by simp)
            · exact .inr (by simp)
            · exact .inl ⟨a, b, c, rfl⟩
            · exact .inr (by simp)
          rcases hn3 with ⟨a, b, c, h3⟩ | h3
          · have ha := spl_len 46 core a (by rw [h3]; simp)
            have hb := spl_len 46 core b (by rw [h3]; simp)
            have hc := spl_len 46 core c (by rw [h3]; simp)
            have HS2 := Lib.hid (show semT core ps = if (numB a && (numB b && numB c)) = true then some ([a, b, c], ps) else none by unfold semT; rw [h3])
            have HROW := Lib.hid (row_new wt [a, b, c])
            have HBN := Lib.hid (show Below w.heap.size w (wt.alloc (.cells ([a, b, c].map (fun p => Value.string (bs p))).toArray 9)) from HBT.out.alloc HBT.out.size _)
            have HN0 := Lib.hid (fun w => HNB.out a w (by omega)); have HN1 := Lib.hid (fun w => HNB.out b w (by omega)); have HN2 := Lib.hid (fun w => HNB.out c w (by omega))
            have c0 : (wt.alloc (.cells ([a, b, c].map (fun p => Value.string (bs p))).toArray 9)).cell? ⟨wt.heap.size, 0, none⟩ = some (.string (bs a)) := row_cell (row_new wt [a, b, c]) 0 (by simp)
            have c1 : (wt.alloc (.cells ([a, b, c].map (fun p => Value.string (bs p))).toArray 9)).cell? ⟨wt.heap.size, 1, none⟩ = some (.string (bs b)) := row_cell (row_new wt [a, b, c]) 1 (by simp)
            have c2 : (wt.alloc (.cells ([a, b, c].map (fun p => Value.string (bs p))).toArray 9)).cell? ⟨wt.heap.size, 2, none⟩ = some (.string (bs c)) := row_cell (row_new wt [a, b, c]) 2 (by simp)
            rw [h3] at HSP
            have HSP2 := Lib.hid (show Calls Tryz.prog 36 #[.string (bs core), .string (oneB 46)] wt (fun e w' => e = .returned (.slice (some ⟨wt.heap.size, 0, none⟩) 3 3) ∧ w' = wt.alloc (.cells ([a, b, c].map (fun p => Value.string (bs p))).toArray 9)) from HSP.out wt)
            generalize hwn : wt.alloc (.cells ([a, b, c].map (fun p => Value.string (bs p))).toArray 9) = wn at *
            have HKN := Lib.hid (show Below wt.heap.size wt wn by rw [← hwn]; exact (Below.refl _ _).alloc (Nat.le_refl _) _)
            generalize hgn : wt.heap.size = gn at *
            have hgb : w.heap.size ≤ gn := by rw [← hgn]; exact HBT.out.size
            clear hwn h3 ha hb hc hcl HSP
            generalize numB a = xa at *
            generalize numB b = xb at *
            generalize numB c = xc at *
            generalize bs a = sa at *
            generalize bs b = sb at *
            generalize bs c = sc at *
            cases xa
            · have HX := Lib.hid (show semR l = none by rw [HSEM.out]; exact HS2.out)
              go_wp2_with fail
              refine HSP2.out.mono ?_
              rintro e w' ⟨rfl, rfl⟩
              go_wp2_with fail
              refine (HN0.out _).mono ?_
              rintro e w' ⟨rfl, rfl⟩
              go_wp2_with fail
              go_ret3
              exact PostS.mk0 HX.out HBN.out
            · cases xb
              · have HX := Lib.hid (show semR l = none by rw [HSEM.out]; exact HS2.out)
                go_wp2_with fail
                refine HSP2.out.mono ?_
                rintro e w' ⟨rfl, rfl⟩
                go_wp2_with fail
                refine (HN0.out _).mono ?_
                rintro e w' ⟨rfl, rfl⟩
                go_wp2_with fail
                refine (HN1.out _).mono ?_
                rintro e w' ⟨rfl, rfl⟩
                go_wp2_with fail
                go_ret3
                exact PostS.mk0 HX.out HBN.out
              · cases xc
                · have HX := Lib.hid (show semR l = none by rw [HSEM.out]; exact HS2.out)
                  go_wp2_with fail
                  refine HSP2.out.mono ?_
                  rintro e w' ⟨rfl, rfl⟩
                  go_wp2_with fail
                  refine (HN0.out _).mono ?_
                  rintro e w' ⟨rfl, rfl⟩
                  go_wp2_with fail
                  refine (HN1.out _).mono ?_
                  rintro e w' ⟨rfl, rfl⟩
                  go_wp2_with fail
                  refine (HN2.out _).mono ?_
                  rintro e w' ⟨rfl, rfl⟩
                  go_wp2_with fail
                  go_ret3
                  exact PostS.mk0 HX.out HBN.out
                · have HX := Lib.hid (show semR l = some ([a, b, c], ps) by rw [HSEM.out]; exact HS2.out)
                  go_wp2_with fail
                  refine HSP2.out.mono ?_
                  rintro e w' ⟨rfl, rfl⟩
                  go_wp2_with fail
                  refine (HN0.out _).mono ?_
                  rintro e w' ⟨rfl, rfl⟩
                  go_wp2_with fail
                  refine (HN1.out _).mono ?_
                  rintro e w' ⟨rfl, rfl⟩
                  go_wp2_with fail
                  refine (HN2.out _).mono ?_
                  rintro e w' ⟨rfl, rfl⟩
                  go_wp2_with fail
                  go_ret3
                  exact PostS.mk1 HX.out HBN.out (.inr ⟨gn, rfl, hgb, HROW.out⟩) (.inr ⟨gp, by rw [HNP.out]; rfl, hgp, row_keep HROWP.out (by rw [hgn]; exact HKN.out)⟩)
          · have HX := Lib.hid (show semR l = none by
              rw [HSEM.out]; unfold semT
              rcases hs : spl 46 core with _ | ⟨a, _ | ⟨b, _ | ⟨c, _ | ⟨d, r⟩⟩⟩⟩ <;> first | rfl | (exfalso; rw [hs] at h3; exact h3 rfl))
            have HBN := Lib.hid (show Below w.heap.size w (wt.alloc (.cells ((spl 46 core).map (fun p => Value.string (bs p))).toArray 9)) from HBT.out.alloc HBT.out.size _)
            have h3d : (((spl 46 core).length : Int) != 3) = true := by rw [bne_iff_ne]; omega
            have HSP2 := Lib.hid (HSP.out wt)
            generalize (spl 46 core).length = n3 at *
            clear h3 hcl HSP
            go_wp2_with fail
            refine HSP2.out.mono ?_
            rintro e w' ⟨rfl, rfl⟩
            go_wp2_with fail
            go_ret3
            exact PostS.mk0 HX.out HBN.out
  · have HSR2 := Lib.hid (show semR l = if (spl 46 bld).all (madeB [45]) = true then semP body else none from HSR.out)
    have HSB := Lib.hid (fun w => split_rowV 46 bld w hll)
    have HBL := Lib.hid (fun p hp => Nat.le_trans (spl_len 46 bld p hp) hll)
    have hbc : (spl 46 bld).length ≤ 100001 := by have := spl_count 46 bld; omega
    clear hll
    generalize spl 46 bld = bb at *
    go_enter Tryz.func34, Tryz.ntmps34
    go_wp2_with fail
    refine (HC0.out _).mono ?_
    rintro e wa ⟨rfl, nd, hwa⟩
    have HBA := Lib.hid (show Below w.heap.size w wa by rw [hwa]; exact below_drewNV2 (Below.refl _ _) nd)
    clear hwa
    go_wp2_with fail
    refine (HSB.out _).mono ?_
    rintro e wp ⟨rfl, hwp⟩
    have HROWB := Lib.hid (show wp.heap[wa.heap.size]? = some (.cells (bb.map (fun p => Value.string (bs p))).toArray 9 (0, 0)) by rw [hwp]; exact row_new wa bb)
    have HBP := Lib.hid (show Below w.heap.size w wp by rw [hwp]; exact HBA.out.alloc HBA.out.size _)
    clear hwp
    generalize wa.heap.size = gb at *
    obtain ⟨nb, hnb⟩ : ∃ nb, bb.length = nb := ⟨_, rfl⟩
    have HNB0 := Lib.hid hnb
    rw [hnb] at hbc ⊢
    clear hnb
    go_wp2_with fail
    go_loop [9] (fun i => ∃ j : Nat, j ≤ nb ∧ i = .int .i64 j ∧ Hid ((bb.take j).all (madeB [45]) = true)) (fun i => nb - (intOf i).toNat)
    case atStart => exact ⟨0, Nat.zero_le _, rfl, by rw [List.take_zero]; rfl⟩
    case round =>
      obtain ⟨j, hj, rfl, HA⟩ := hrel
      by_cases hlt : j < nb
      · have hjl : j < bb.length := by have := HNB0.out; omega
        have hd : decide ((j : Int) < (nb : Int)) = true := by simp; omega
        have q0 : (0 : Int) ≤ (j : Int) := by omega
        have q1 : (j : Int) < (nb : Int) := by omega
        have hcj := row_cell HROWB.out j hjl
        have HMD := Lib.hid (fun w => rMade_any [45] bb[j] w (HBL.out _ (List.getElem_mem hjl)))
        have NXT := Lib.hid (fun h : madeB [45] bb[j] = true => all_snoc hjl HA.out h)
        have NOT := Lib.hid (fun h : madeB [45] bb[j] = false => (show semR l = none by rw [HSR2.out, all_no hjl h]; rfl))
        generalize madeB [45] bb[j] = xm at *
        generalize bs bb[j] = sj at *
        cases xm
        · have HX := Lib.hid (NOT.out rfl)
          clear NXT NOT
          go_wp2_with fail
          refine (HMD.out _).mono ?_
          rintro e w' ⟨rfl, rfl⟩
          go_wp2_with fail
          go_ret3
          exact PostS.mk0 HX.out HBP.out
        · have HX := Lib.hid (NXT.out rfl)
          clear NXT NOT
          go_wp2_with fail
          refine (HMD.out _).mono ?_
          rintro e w' ⟨rfl, rfl⟩
          go_wp2_with fail
          go_round
          case rel => exact ⟨j + 1, by omega, by go_num, HX.out⟩
          case measure => simp [intOf]; omega
      · obtain rfl : j = nb := by omega
        have hd : decide ((j : Int) < (j : Int)) = false := by simp
        have HALLB := Lib.hid (show bb.all (madeB [45]) = true by have := HA.out; rw [← HNB0.out, List.take_length] at this; exact this)
        have HSP0 := Lib.hid (show semR l = semP body by rw [HSR2.out, HALLB.out]; rfl)
        clear hlt
        have HCU := Lib.hid (fun w => cut_anyV 45 body w hbl)
        have hcl2 := cutL_len 45 body
        have HSM := Lib.hid (show semP body = if (cutL 45 body).2.2 = true then (if (spl 46 (cutL 45 body).2.1).all idOK = true then semT (cutL 45 body).1 (spl 46 (cutL 45 body).2.1) else none) else semT (cutL 45 body).1 [] from rfl)
        generalize cutL 45 body = cc at *
        obtain ⟨core, pre, has⟩ := cc
        dsimp only at HCU hcl2 HSM
        have hcl : core.length ≤ 100000 := by omega
        have hpl : pre.length ≤ 100000 := by omega
        clear hcl2 hbl
        cases has
        · have HSEM := Lib.hid (show semR l = semT core [] by rw [HSP0.out]; exact HSM.out)
          clear hpl
          go_wp2_with fail
          refine (HCU.out _).mono ?_
          rintro e wt ⟨rfl, nd, hwt⟩
          have HBT := Lib.hid (show Below w.heap.size w wt by rw [hwt]; exact below_drewNV2 HBP.out nd)
          clear hwt
          have HSP := Lib.hid (fun w => split_rowV 46 core w hcl)
          have HNB := Lib.hid (fun (p : BL) (w : World) (h : p.length ≤ 100000) => rNumber_any p w h)
          have hn3 : (∃ a b c, spl 46 core = [a, b, c]) ∨ (spl 46 core).length ≠ 3 := by
            rcases hs : spl 46 core with _ | ⟨a, _ | ⟨b, _ | ⟨c, _ | ⟨d, r⟩⟩⟩⟩
            · exact .inr (by simp)
            · exact .inr (by simp)
            · exact .inr (by simp)
            · exact .inl ⟨a, b, c, rfl⟩
            · exact .inr (by simp)
          rcases hn3 with ⟨a, b, c, h3⟩ | h3
          · have ha := spl_len 46 core a (by rw [h3]; simp)
            have hb := spl_len 46 core b (by rw [h3]; simp)
            have hc := spl_len 46 core c (by rw [h3]; simp)
            have HS2 := Lib.hid (show semT core [] = if (numB a && (numB b && numB c)) = true then some ([a, b, c], []) else none by unfold semT; rw [h3])
            have HROW := Lib.hid (row_new wt [a, b, c])
            have HBN := Lib.hid (show Below w.heap.size w (wt.alloc (.cells ([a, b, c].map (fun p => Value.string (bs p))).toArray 9)) from HBT.out.alloc HBT.out.size _)
            have HN0 := Lib.hid (fun w => HNB.out a w (by omega)); have HN1 := Lib.hid (fun w => HNB.out b w (by omega)); have HN2 := Lib.hid (fun w => HNB.out c w (by omega))
            have c0 : (wt.alloc (.cells ([a, b, c].map (fun p => Value.string (bs p))).toArray 9)).cell? ⟨wt.heap.size, 0, none⟩ = some (.string (bs a)) := row_cell (row_new wt [a, b, c]) 0 (by simp)
            have c1 : (wt.alloc (.cells ([a, b, c].map (fun p => Value.string (bs p))).toArray 9)).cell? ⟨wt.heap.size, 1, none⟩ = some (.string (bs b)) := row_cell (row_new wt [a, b, c]) 1 (by simp)
            have c2 : (wt.alloc (.cells ([a, b, c].map (fun p => Value.string (bs p))).toArray 9)).cell? ⟨wt.heap.size, 2, none⟩ = some (.string (bs c)) := row_cell (row_new wt [a, b, c]) 2 (by simp)
            rw [h3] at HSP
            have HSP2 := Lib.hid (show Calls Tryz.prog 36 #[.string (bs core), .string (oneB 46)] wt (fun e w' => e = .returned (.slice (some ⟨wt.heap.size, 0, none⟩) 3 3) ∧ w' = wt.alloc (.cells ([a, b, c].map (fun p => Value.string (bs p))).toArray 9)) from HSP.out wt)
            generalize hwn : wt.alloc (.cells ([a, b, c].map (fun p => Value.string (bs p))).toArray 9) = wn at *
            have HKN := Lib.hid (show Below wt.heap.size wt wn by rw [← hwn]; exact (Below.refl _ _).alloc (Nat.le_refl _) _)
            generalize hgn : wt.heap.size = gn at *
            have hgb : w.heap.size ≤ gn := by rw [← hgn]; exact HBT.out.size
            clear hwn h3 ha hb hc hcl HSP
            generalize numB a = xa at *
            generalize numB b = xb at *
            generalize numB c = xc at *
            generalize bs a = sa at *
            generalize bs b = sb at *
            generalize bs c = sc at *
            cases xa
            · have HX := Lib.hid (show semR l = none by rw [HSEM.out]; exact HS2.out)
              go_wp2_with fail
              refine HSP2.out.mono ?_
              rintro e w' ⟨rfl, rfl⟩
              go_wp2_with fail
              refine (HN0.out _).mono ?_
              rintro e w' ⟨rfl, rfl⟩
              go_wp2_with fail
              go_ret3
              exact PostS.mk0 HX.out HBN.out
            · cases xb
              · have HX := Lib.hid (show semR l = none by rw [HSEM.out]; exact HS2.out)
                go_wp2_with fail
                refine HSP2.out.mono ?_
                rintro e w' ⟨rfl, rfl⟩
                go_wp2_with fail
                refine (HN0.out _).mono ?_
                rintro e w' ⟨rfl, rfl⟩
                go_wp2_with fail
                refine (HN1.out _).mono ?_
                rintro e w' ⟨rfl, rfl⟩
                go_wp2_with fail
                go_ret3
                exact PostS.mk0 HX.out HBN.out
              · cases xc
                · have HX := Lib.hid (show semR l = none by rw [HSEM.out]; exact HS2.out)
                  go_wp2_with fail
                  refine HSP2.out.mono ?_
                  rintro e w' ⟨rfl, rfl⟩
                  go_wp2_with fail
                  refine (HN0.out _).mono ?_
                  rintro e w' ⟨rfl, rfl⟩
                  go_wp2_with fail
                  refine (HN1.out _).mono ?_
                  rintro e w' ⟨rfl, rfl⟩
                  go_wp2_with fail
                  refine (HN2.out _).mono ?_
                  rintro e w' ⟨rfl, rfl⟩
                  go_wp2_with fail
                  go_ret3
                  exact PostS.mk0 HX.out HBN.out
                · have HX := Lib.hid (show semR l = some ([a, b, c], []) by rw [HSEM.out]; exact HS2.out)
                  go_wp2_with fail
                  refine HSP2.out.mono ?_
                  rintro e w' ⟨rfl, rfl⟩
                  go_wp2_with fail
                  refine (HN0.out _).mono ?_
                  rintro e w' ⟨rfl, rfl⟩
                  go_wp2_with fail
                  refine (HN1.out _).mono ?_
                  rintro e w' ⟨rfl, rfl⟩
                  go_wp2_with fail
                  refine (HN2.out _).mono ?_
                  rintro e w' ⟨rfl, rfl⟩
                  go_wp2_with fail
                  go_ret3
                  exact PostS.mk1 HX.out HBN.out (.inr ⟨gn, rfl, hgb, HROW.out⟩) (.inl ⟨rfl, rfl⟩)
          · have HX := Lib.hid (show semR l = none by
              rw [HSEM.out]; unfold semT
              rcases hs : spl 46 core with _ | ⟨a, _ | ⟨b, _ | ⟨c, _ | ⟨d, r⟩⟩⟩⟩ <;> first | rfl | (exfalso; rw [hs] at h3; exact h3 rfl))
            have HBN := Lib.hid (show Below w.heap.size w (wt.alloc (.cells ((spl 46 core).map (fun p => Value.string (bs p))).toArray 9)) from HBT.out.alloc HBT.out.size _)
            have h3d : (((spl 46 core).length : Int) != 3) = true := by rw [bne_iff_ne]; omega
            have HSP2 := Lib.hid (HSP.out wt)
            generalize (spl 46 core).length = n3 at *
            clear h3 hcl HSP
            go_wp2_with fail
            refine HSP2.out.mono ?_
            rintro e w' ⟨rfl, rfl⟩
            go_wp2_with fail
            go_ret3
            exact PostS.mk0 HX.out HBN.out
        · have HSM2 := Lib.hid (show semR l = if (spl 46 pre).all idOK = true then semT core (spl 46 pre) else none by rw [HSP0.out]; exact HSM.out)
          have HSPP := Lib.hid (fun w => split_rowV 46 pre w hpl)
          have HPL := Lib.hid (fun p hp => Nat.le_trans (spl_len 46 pre p hp) hpl)
          have hpc : (spl 46 pre).length ≤ 100001 := by have := spl_count 46 pre; omega
          go_wp2_with fail
          refine (HCU.out _).mono ?_
          rintro e wq ⟨rfl, nd, hwq⟩
          have HBQ := Lib.hid (show Below w.heap.size w wq by rw [hwq]; exact below_drewNV2 HBP.out nd)
          clear hwq hpl
          generalize spl 46 pre = ps at *
          go_wp2_with fail
          refine (HSPP.out _).mono ?_
          rintro e wt ⟨rfl, hwt⟩
          have HROWP := Lib.hid (show wt.heap[wq.heap.size]? = some (.cells (ps.map (fun p => Value.string (bs p))).toArray 9 (0, 0)) by rw [hwt]; exact row_new wq ps)
          have HBT := Lib.hid (show Below w.heap.size w wt by rw [hwt]; exact HBQ.out.alloc HBQ.out.size _)
          have hgp : w.heap.size ≤ wq.heap.size := HBQ.out.size
          clear hwt
          generalize wq.heap.size = gp at *
          obtain ⟨np, hnp⟩ : ∃ np, ps.length = np := ⟨_, rfl⟩
          have HNP := Lib.hid hnp
          rw [hnp] at hpc ⊢
          clear hnp
          go_wp2_with fail
          go_loop [14] (fun i => ∃ j : Nat, j ≤ np ∧ i = .int .i64 j ∧ Hid ((ps.take j).all idOK = true)) (fun i => np - (intOf i).toNat)
          case atStart => exact ⟨0, Nat.zero_le _, rfl, by rw [List.take_zero]; rfl⟩
          case round =>
            obtain ⟨j, hj, rfl, HA⟩ := hrel
            by_cases hlt : j < np
            · have hjl : j < ps.length := by have := HNP.out; omega
              have hd : decide ((j : Int) < (np : Int)) = true := by simp; omega
              have q0 : (0 : Int) ≤ (j : Int) := by omega
              have q1 : (j : Int) < (np : Int) := by omega
              have hcj := row_cell HROWP.out j hjl
              have HPJ := HPL.out ps[j] (List.getElem_mem hjl)
              have HMD := Lib.hid (fun w => rMade_any [45] ps[j] w HPJ)
              have HDG := Lib.hid (fun w => rDigits_any ps[j] w HPJ)
              have HNB := Lib.hid (fun w => rNumber_any ps[j] w HPJ)
              have HIE : Hid (idOK ps[j] = (madeB [45] ps[j] && (!(digs ps[j]) || numB ps[j]))) := rfl
              have NXT := Lib.hid (fun h : idOK ps[j] = true => all_snoc hjl HA.out h)
              have NOT := Lib.hid (fun h : idOK ps[j] = false => (show semR l = none by rw [HSM2.out, all_no hjl h]; rfl))
              generalize idOK ps[j] = k at *
              generalize madeB [45] ps[j] = xm at *
              generalize digs ps[j] = xd at *
              generalize numB ps[j] = xn at *
              generalize bs ps[j] = sj at *
              cases xm
              · have HX := Lib.hid (NOT.out (by rw [HIE.out]; rfl))
                clear NXT NOT
                go_wp2_with fail
                refine (HMD.out _).mono ?_
                rintro e w' ⟨rfl, rfl⟩
                go_wp2_with fail
                go_ret3
                exact PostS.mk0 HX.out HBT.out
              · cases xd
                · have HX := Lib.hid (NXT.out (by rw [HIE.out]; rfl))
                  clear NXT NOT
                  go_wp2_with fail
                  refine (HMD.out _).mono ?_
                  rintro e w' ⟨rfl, rfl⟩
                  go_wp2_with fail
                  refine (HDG.out _).mono ?_
                  rintro e w' ⟨rfl, rfl⟩
                  go_wp2_with fail
                  go_round
                  case rel => exact ⟨j + 1, by omega, by go_num, HX.out⟩
                  case measure => simp [intOf]; omega
                · cases xn
                  · have HX := Lib.hid (NOT.out (by rw [HIE.out]; rfl))
                    clear NXT NOT
                    go_wp2_with fail
                    refine (HMD.out _).mono ?_
                    rintro e w' ⟨rfl, rfl⟩
                    go_wp2_with fail
                    refine (HDG.out _).mono ?_
                    rintro e w' ⟨rfl, rfl⟩
                    go_wp2_with fail
                    refine (HNB.out _).mono ?_
                    rintro e w' ⟨rfl, rfl⟩
                    go_wp2_with fail
                    go_ret3
                    exact PostS.mk0 HX.out HBT.out
                  · have HX := Lib.hid (NXT.out (by rw [HIE.out]; rfl))
                    clear NXT NOT
                    go_wp2_with fail
                    refine (HMD.out _).mono ?_
                    rintro e w' ⟨rfl, rfl⟩
                    go_wp2_with fail
                    refine (HDG.out _).mono ?_
                    rintro e w' ⟨rfl, rfl⟩
                    go_wp2_with fail
                    refine (HNB.out _).mono ?_
                    rintro e w' ⟨rfl, rfl⟩
                    go_wp2_with fail
                    go_round
                    case rel => exact ⟨j + 1, by omega, by go_num, HX.out⟩
                    case measure => simp [intOf]; omega
            · obtain rfl : j = np := by omega
              have hd : decide ((j : Int) < (j : Int)) = false := by simp
              have HALL := Lib.hid (show ps.all idOK = true by have := HA.out; rw [← HNP.out, List.take_length] at this; exact this)
              have HSEM := Lib.hid (show semR l = semT core ps by rw [HSM2.out, HALL.out]; rfl)
              clear hlt
              have HSP := Lib.hid (fun w => split_rowV 46 core w hcl)
              have HNB := Lib.hid (fun (p : BL) (w : World) (h : p.length ≤ 100000) => rNumber_any p w h)
              have hn3 : (∃ a b c, spl 46 core = [a, b, c]) ∨ (spl 46 core).length ≠ 3 := by
                rcases hs : spl 46 core with _ | ⟨a, _ | ⟨b, _ | ⟨c, _ | ⟨d, r⟩⟩⟩⟩
                · exact .inr (by simp)
                · exact .inr (by simp)
                · exact .inr (by simp)
                · exact .inl ⟨a, b, c, rfl⟩
                · exact .inr (by simp)
              rcases hn3 with ⟨a, b, c, h3⟩ | h3
              · have ha := spl_len 46 core a (by rw [h3]; simp)
                have hb := spl_len 46 core b (by rw [h3]; simp)
                have hc := spl_len 46 core c (by rw [h3]; simp)
                have HS2 := Lib.hid (show semT core ps = if (numB a && (numB b && numB c)) = true then some ([a, b, c], ps) else none by unfold semT; rw [h3])
                have HROW := Lib.hid (row_new wt [a, b, c])
                have HBN := Lib.hid (show Below w.heap.size w (wt.alloc (.cells ([a, b, c].map (fun p => Value.string (bs p))).toArray 9)) from HBT.out.alloc HBT.out.size _)
                have HN0 := Lib.hid (fun w => HNB.out a w (by omega)); have HN1 := Lib.hid (fun w => HNB.out b w (by omega)); have HN2 := Lib.hid (fun w => HNB.out c w (by omega))
                have c0 : (wt.alloc (.cells ([a, b, c].map (fun p => Value.string (bs p))).toArray 9)).cell? ⟨wt.heap.size, 0, none⟩ = some (.string (bs a)) := row_cell (row_new wt [a, b, c]) 0 (by simp)
                have c1 : (wt.alloc (.cells ([a, b, c].map (fun p => Value.string (bs p))).toArray 9)).cell? ⟨wt.heap.size, 1, none⟩ = some (.string (bs b)) := row_cell (row_new wt [a, b, c]) 1 (by simp)
                have c2 : (wt.alloc (.cells ([a, b, c].map (fun p => Value.string (bs p))).toArray 9)).cell? ⟨wt.heap.size, 2, none⟩ = some (.string (bs c)) := row_cell (row_new wt [a, b, c]) 2 (by simp)
                rw [h3] at HSP
                have HSP2 := Lib.hid (show Calls Tryz.prog 36 #[.string (bs core), .string (oneB 46)] wt (fun e w' => e = .returned (.slice (some ⟨wt.heap.size, 0, none⟩) 3 3) ∧ w' = wt.alloc (.cells ([a, b, c].map (fun p => Value.string (bs p))).toArray 9)) from HSP.out wt)
                generalize hwn : wt.alloc (.cells ([a, b, c].map (fun p => Value.string (bs p))).toArray 9) = wn at *
                have HKN := Lib.hid (show Below wt.heap.size wt wn by rw [← hwn]; exact (Below.refl _ _).alloc (Nat.le_refl _) _)
                generalize hgn : wt.heap.size = gn at *
                have hgb : w.heap.size ≤ gn := by rw [← hgn]; exact HBT.out.size
                clear hwn h3 ha hb hc hcl HSP
                generalize numB a = xa at *
                generalize numB b = xb at *
                generalize numB c = xc at *
                generalize bs a = sa at *
                generalize bs b = sb at *
                generalize bs c = sc at *
                cases xa
                · have HX := Lib.hid (show semR l = none by rw [HSEM.out]; exact HS2.out)
                  go_wp2_with fail
                  refine HSP2.out.mono ?_
                  rintro e w' ⟨rfl, rfl⟩
                  go_wp2_with fail
                  refine (HN0.out _).mono ?_
                  rintro e w' ⟨rfl, rfl⟩
                  go_wp2_with fail
                  go_ret3
                  exact PostS.mk0 HX.out HBN.out
                · cases xb
                  · have HX := Lib.hid (show semR l = none by rw [HSEM.out]; exact HS2.out)
                    go_wp2_with fail
                    refine HSP2.out.mono ?_
                    rintro e w' ⟨rfl, rfl⟩
                    go_wp2_with fail
                    refine (HN0.out _).mono ?_
                    rintro e w' ⟨rfl, rfl⟩
                    go_wp2_with fail
                    refine (HN1.out _).mono ?_
                    rintro e w' ⟨rfl, rfl⟩
                    go_wp2_with fail
                    go_ret3
                    exact PostS.mk0 HX.out HBN.out
                  · cases xc
                    · have HX := Lib.hid (show semR l = none by rw [HSEM.out]; exact HS2.out)
                      go_wp2_with fail
                      refine HSP2.out.mono ?_
                      rintro e w' ⟨rfl, rfl⟩
                      go_wp2_with fail
                      refine (HN0.out _).mono ?_
                      rintro e w' ⟨rfl, rfl⟩
                      go_wp2_with fail
                      refine (HN1.out _).mono ?_
                      rintro e w' ⟨rfl, rfl⟩
                      go_wp2_with fail
                      refine (HN2.out _).mono ?_
                      rintro e w' ⟨rfl, rfl⟩
                      go_wp2_with fail
                      go_ret3
                      exact PostS.mk0 HX.out HBN.out
                    · have HX := Lib.hid (show semR l = some ([a, b, c], ps) by rw [HSEM.out]; exact HS2.out)
                      go_wp2_with fail
                      refine HSP2.out.mono ?_
                      rintro e w' ⟨rfl, rfl⟩
                      go_wp2_with fail
                      refine (HN0.out _).mono ?_
                      rintro e w' ⟨rfl, rfl⟩
                      go_wp2_with fail
                      refine (HN1.out _).mono ?_
                      rintro e w' ⟨rfl, rfl⟩
                      go_wp2_with fail
                      refine (HN2.out _).mono ?_
                      rintro e w' ⟨rfl, rfl⟩
                      go_wp2_with fail
                      go_ret3
                      exact PostS.mk1 HX.out HBN.out (.inr ⟨gn, rfl, hgb, HROW.out⟩) (.inr ⟨gp, by rw [HNP.out]; rfl, hgp, row_keep HROWP.out (by rw [hgn]; exact HKN.out)⟩)
              · have HX := Lib.hid (show semR l = none by
                  rw [HSEM.out]; unfold semT
                  rcases hs : spl 46 core with _ | ⟨a, _ | ⟨b, _ | ⟨c, _ | ⟨d, r⟩⟩⟩⟩ <;> first | rfl | (exfalso; rw [hs] at h3; exact h3 rfl))
                have HBN := Lib.hid (show Below w.heap.size w (wt.alloc (.cells ((spl 46 core).map (fun p => Value.string (bs p))).toArray 9)) from HBT.out.alloc HBT.out.size _)
                have h3d : (((spl 46 core).length : Int) != 3) = true := by rw [bne_iff_ne]; omega
                have HSP2 := Lib.hid (HSP.out wt)
                generalize (spl 46 core).length = n3 at *
                clear h3 hcl HSP
                go_wp2_with fail
                refine HSP2.out.mono ?_
                rintro e w' ⟨rfl, rfl⟩
                go_wp2_with fail
                go_ret3
                exact PostS.mk0 HX.out HBN.out
end Go.Proofs.YtceeilojcifgeaaGreatDoor
