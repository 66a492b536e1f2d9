/-
  The walk of the statements' own bound light: it answers, whatever the lines (condition: the lines read as lists of words).
-/
import Derived.Test.YtmafefdchglpbaaDoorDocF
import Derived.Deep.Cut
namespace Go.Proofs.YtmafefdchglpbaaDoor
open Go.RowKit

def LightRes (np : Nat) (w : World) (e : Ending) (w' : World) : Prop := (∃ b : Bool, e = .returned (.bool b) ∧ (b = true → np ≤ 1200)) ∧ w = w'

set_option maxRecDepth 100000 in
set_option maxHeartbeats 1000000 in
theorem light_any (pa : Option Addr) (np ncap : Nat) (ls : List Ln) (w : World) (hp : LinesIn w w.heap.size pa np ls) (hmax : np ≤ 9223372036854775807) (hmax2 : ∀ q ∈ ls, q.n ≤ 9223372036854775807) (hsz : ∀ q ∈ ls, ∀ s ∈ q.l, s.size ≤ 9223372036854775807) :
    Calls Tryd.prog 22 #[.slice pa np ncap] w (LightRes np w) := by
  have HP := Lib.hid hp; have HM := Lib.hid hmax2; have HSZ := Lib.hid hsz; clear hp hmax2 hsz
  have HLEN := Lib.hid HP.out.len
  by_cases hbig : 1200 < np
  · go_enter Tryd.func22, Tryd.ntmps22
    go_wp2
    go_ret
    exact ⟨⟨_, rfl, fun h => by cases h⟩, rfl⟩
  · go_enter Tryd.func22, Tryd.ntmps22
    go_wp2_with fail
    go_loopg [3, 4] np (fun g s i wx => ∃ k : Nat, k + g = np ∧ i = .int .i64 k ∧ w = wx ∧ ∃ t : Nat, s = .int .i64 t ∧ t ≤ 100000)
    case atStart => exact ⟨0, by omega, rfl, rfl, 0, rfl, by omega⟩
    case round =>
      obtain ⟨k, hg, rfl, rfl, t, rfl, ht⟩ := hrel
      by_cases hlt : k < np
      · have hk2 : k < ls.length := by have := HLEN.out; omega
        obtain ⟨pb, po, rfl, hpb, hcell⟩ := HP.out.cells (by omega)
        have ck : w.cell? ⟨pb, po + k, none⟩ = some (.slice ls[k].sp ls[k].n ls[k].cap) := hcell k hk2
        have HE := Lib.hid (HP.out.each _ (List.getElem_mem hk2))
        have hmx := HM.out _ (List.getElem_mem hk2)
        have HZ := Lib.hid (HSZ.out _ (List.getElem_mem hk2))
        clear hcell
        generalize ls[k].sp = lsp at *
        generalize ls[k].n = n at *
        generalize ls[k].cap = lcap at *
        generalize ls[k].l = l at *
        obtain rfl := HE.out.len
        by_cases h200 : 200 < l.length
        · go_wp2
          go_ret
          exact ⟨⟨_, rfl, fun _ => by omega⟩, rfl⟩
        · go_wp2_with fail
          go_loopg [3, 5] l.length (fun g s i wy => ∃ j : Nat, j + g = l.length ∧ i = .int .i64 j ∧ w = wy ∧ ∃ t : Nat, s = .int .i64 t ∧ t ≤ 100000)
          case atStart => exact ⟨0, by omega, rfl, rfl, t, rfl, ht⟩
          case round =>
            clear ht
            obtain ⟨j, hg2, rfl, rfl, t, rfl, ht⟩ := hrel
            by_cases hj : j < l.length
            · obtain ⟨sb, so, rfl, hsb, hsc⟩ := HE.out.cells (by omega)
              have cw : w.cell? ⟨sb, so + j, none⟩ = some (.string l[j]) := hsc j hj
              have hs := HZ.out _ (List.getElem_mem hj)
              clear hsc
              generalize l[j] = s at *
              go_upto_region 13 with fail
              have hM : (0 : Int) ≤ (if (100000 : Int) < (s.size : Int) then (100000 : Int) else (s.size : Int)) ∧ (if (100000 : Int) < (s.size : Int) then (100000 : Int) else (s.size : Int)) ≤ 100000 := by split <;> omega
              generalize (if (100000 : Int) < (s.size : Int) then (100000 : Int) else (s.size : Int)) = M at *
              obtain ⟨hM1, hM2⟩ := hM
              by_cases h2 : (100000 : Int) < (t : Int) + 1 + M
              · have hd1 : decide ((t : Int) + 1 + M > 100000) = true := decide_eq_true h2
                have hd2 : decide (100000 < (t : Int) + 1 + M) = true := decide_eq_true h2
                go_wp2_with fail
                go_ret
                exact ⟨⟨_, rfl, fun _ => by omega⟩, rfl⟩
              · have hd1 : decide ((t : Int) + 1 + M > 100000) = false := decide_eq_false h2
                have hd2 : decide (100000 < (t : Int) + 1 + M) = false := decide_eq_false h2
                go_wp2_with fail
                go_roundg (l.length - (j + 1))
                case measure => omega
                case rel => exact ⟨j + 1, by omega, by go_num, rfl, t + 1 + M.toNat, by congr 1; omega, by omega⟩
            · obtain rfl : j = l.length := by omega
              go_wp2_with fail
              go_roundg (np - (k + 1))
              case measure => omega
              case rel => exact ⟨k + 1, by omega, by go_num, rfl, t, rfl, ht⟩
      · obtain rfl : k = np := by omega
        go_wp2
        go_ret
        exact ⟨⟨_, rfl, fun _ => by omega⟩, rfl⟩
end Go.Proofs.YtmafefdchglpbaaDoor
