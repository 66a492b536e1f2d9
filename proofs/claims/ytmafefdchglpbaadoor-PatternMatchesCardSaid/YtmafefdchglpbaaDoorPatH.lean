/-
  The walks of pattern.Match and of the sanity check of the statements of layer 3.
-/
import Derived.Test.YtmafefdchglpbaaDoorPatG
namespace Go.Proofs.YtmafefdchglpbaaDoor
open Go.RowKit

theorem rdP_ne {l : List UInt8} {ps : List Pt} (hl : l ≠ []) (h : rdP l = some ps) : ps ≠ [] := by
  have key : ∀ (q : Pt) (r : List UInt8), (rdP r).map (q :: ·) = some ps → ps ≠ [] := by
    intro q r he
    cases hp : rdP r with
    | none => rw [hp] at he; simp at he
    | some ps' => rw [hp] at he; intro e; rw [e] at he; simp at he
  cases l with
  | nil => exact absurd rfl hl
  | cons x r =>
    by_cases h1 : x = 92
    · subst h1
      cases r with
      | nil => rw [rdP_cons_esc_end] at h; cases h
      | cons y r' => rw [rdP_esc] at h; exact key _ _ h
    · by_cases h2 : x = 42
      · subst h2
        by_cases h3 : r.head? = some 42
        · cases r with
          | nil => simp at h3
          | cons y r' =>
            obtain rfl : y = 42 := by simpa using h3
            rw [rdP_ss] at h; exact key _ _ h
        · rw [rdP_s r h3] at h; exact key _ _ h
      · by_cases h3 : x = 63
        · subst h3; rw [rdP_q] at h; exact key _ _ h
        · rw [rdP_c x r h1 h2 h3] at h; exact key _ _ h
theorem patL_ne {l : List UInt8} {ps : List Pt} (h : patL l = some ps) : 0 < ps.length := by
  have h3 := (patL_kinds h).2.2
  have hl : l ≠ [] := by rintro rfl; unfold patL at h; simp at h
  have := rdP_ne hl h3
  cases ps with
  | nil => exact absurd rfl this
  | cons _ _ => simp
/-- parts that the call has read, in memory -/
theorem pIn_of_own {w : World} {base : Nat} {sp : Option Addr} {n cap : Nat} {ps : List Pt} (h : w.ownsRow base 93 2 (.slice sp n cap) n (ptC ps)) (hn : n = ps.length) (h0 : 0 < n) : ∃ g, sp = some ⟨g, 0, none⟩ ∧ base ≤ g ∧ g < w.heap.size ∧ n ≤ cap ∧ PIn w g ps := by
  obtain ⟨_, ⟨e, h1⟩ | ⟨g, cap', cur, e, hb, hh, hc, _, hsz, hx⟩⟩ := h
  · omega
  · injection e with e1 e2 e3
    subst e1 e3
    refine ⟨g, rfl, hb, (Array.getElem?_eq_some_iff.1 hh).1, hc, fun i hi => ?_, fun i hi => ?_⟩
    · have h1 := (ptC_at ps i hi).1
      rw [← hx, List.getElem?_take] at h1
      rw [cell_of_row w g _ _ _ _ hh, ← Array.getElem?_toList, Nat.mul_comm i 2]
      split at h1
      · exact h1
      · cases h1
    · have h1 := (ptC_at ps i hi).2
      rw [← hx, List.getElem?_take] at h1
      rw [cell_of_row w g _ _ _ _ hh, ← Array.getElem?_toList, Nat.mul_comm i 2]
      split at h1
      · exact h1
      · cases h1
theorem mtB_none {p s : ByteArray} (h : patL p.data.toList = none) : mtB p s = false := by unfold mtB; rw [h]
theorem mtB_some {p s : ByteArray} {ps : List Pt} (h : patL p.data.toList = some ps) : mtB p s = (pathB s && concB ps s.data.toList) := by unfold mtB; rw [h]
theorem pathB_size {s : ByteArray} (h : pathB s = true) : s.size ≤ 200 := by
  unfold pathB at h; simp at h; exact h.1.1
set_option maxRecDepth 100000 in
set_option maxHeartbeats 1000000 in
theorem Match_any (p s : ByteArray) (w : World) :
    Calls Tryd.prog 33 #[.string p, .string s] w fun e w' => e = .returned (.bool (mtB p s)) ∧ Below w.heap.size w w' := by
  have HR := Lib.hid (read_any p w)
  have HPA := Lib.hid (fun w => Path_any s w)
  cases hp : patL p.data.toList with
  | none =>
    have HM := Lib.hid (mtB_none (s := s) hp)
    have hR2 : Calls Tryd.prog 53 #[.string p] w fun e w' => e = .returned (.tuple #[.slice none 0 0, .bool false]) ∧ Below w.heap.size w w' := HR.out.mono fun e w' h => by unfold ReadRes at h; rw [hp] at h; exact h
    have HR2 := Lib.hid hR2
    clear hR2 hp HR
    go_enter Tryd.func33, Tryd.ntmps33
    go_wp2_with fail
    refine HR2.out.mono ?_
    rintro e w1 ⟨rfl, hb1⟩
    go_wp2_with fail
    go_ret
    exact ⟨by rw [HM.out]; rfl, hb1⟩
  | some ps =>
    have HM := Lib.hid (mtB_some (s := s) hp)
    obtain ⟨k3, k200, _⟩ := patL_kinds hp
    have h0 := patL_ne hp
    have hR2 : Calls Tryd.prog 53 #[.string p] w fun e w' => ∃ g cap, e = .returned (.tuple #[.slice (some ⟨g, 0, none⟩) ps.length cap, .bool true]) ∧ g < w'.heap.size ∧ ps.length ≤ cap ∧ PIn w' g ps ∧ Below w.heap.size w w' := HR.out.mono fun e w' h => by
      unfold ReadRes at h; rw [hp] at h
      obtain ⟨sp, cap, he, ho, hb⟩ := h
      obtain ⟨g, rfl, _, h2, h3, h4⟩ := pIn_of_own ho rfl h0
      exact ⟨g, cap, he, h2, h3, h4, hb⟩
    have HR2 := Lib.hid hR2
    have HK := Lib.hid k3
    have HCO : Hid (∀ (g cap : Nat) (w5 : World), ps.length ≤ cap → PIn w5 g ps → g < w5.heap.size → s.size ≤ 1000000 → Calls Tryd.prog 55 #[.slice (some ⟨g, 0, none⟩) ps.length cap, .string s] w5 fun e w' => e = .returned (.bool (concB ps s.data.toList)) ∧ Below w5.heap.size w5 w') :=
      fun g cap w5 h1 h2 h3 h4 => conc_any g ps.length cap ps s w5 rfl k200 h1 h2 h3 k3 h4
    clear hR2 hp HR k3
    obtain ⟨cb, hcb⟩ : ∃ b, concB ps s.data.toList = b := ⟨_, rfl⟩
    rw [hcb] at HCO HM
    obtain ⟨n, hn⟩ : ∃ n, ps.length = n := ⟨_, rfl⟩
    rw [hn] at HR2 HCO k200 h0
    clear hcb hn
    have hps := pathB_size (s := s)
    obtain ⟨pb, hpb⟩ : ∃ b, pathB s = b := ⟨_, rfl⟩
    rw [hpb] at HPA HM hps
    have HPS := Lib.hid hps
    clear hpb hps
    go_enter Tryd.func33, Tryd.ntmps33
    go_wp2_with fail
    refine HR2.out.mono ?_
    rintro e w1 ⟨g, cap, rfl, hg, hcap, hpi, hb1⟩
    have HPI := Lib.hid hpi; have HB1 := Lib.hid hb1
    clear hpi hb1
    go_wp2_with fail
    refine (HPA.out _).mono ?_
    rintro e w2 ⟨rfl, hb2⟩
    have HP2 : Hid (PIn w2 g ps) := ⟨fun i hi => (hb2.cell (p := ⟨g, i * 2, none⟩) hg).trans (HPI.out.k i hi), fun i hi => (hb2.cell (p := ⟨g, i * 2 + 1, none⟩) hg).trans (HPI.out.c i hi)⟩
    have HB2 := Lib.hid (HB1.out.trans (hb2.mono HB1.out.size))
    have hg2 : g < w2.heap.size := Nat.lt_of_lt_of_le hg hb2.size
    clear hb2
    cases pb
    · go_wp2_with fail
      go_ret
      exact ⟨by rw [HM.out]; rfl, HB2.out⟩
    · go_wp2_with fail
      refine (HCO.out g cap w2 hcap HP2.out hg2 (by have := HPS.out (by first | rfl | trivial); omega)).mono ?_
      rintro e w3 ⟨rfl, hb3⟩
      have HB3 := Lib.hid (HB2.out.trans (hb3.mono HB2.out.size))
      clear hb3
      go_wp2_with fail
      go_ret
      exact ⟨by rw [HM.out]; rfl, HB3.out⟩
end Go.Proofs.YtmafefdchglpbaaDoor
