/-
  The tape of the statements: the walk of Pick.
-/
import Derived.Test.YtceeilojcifgeaaGreatDoorTapA
namespace Go.Proofs.YtceeilojcifgeaaGreatDoor
open Go.RowKit

theorem Turn.cell {tb b o : Nat} {w w' : World} (h : Turn tb w w') (hb : b < w.heap.size) (hne : b ≠ tb) : w'.cell? ⟨b, o, none⟩ = w.cell? ⟨b, o, none⟩ := World.cell?_of_block (a := ⟨b, o, none⟩) (h.block b hb hne)
set_option maxRecDepth 100000 in
set_option maxHeartbeats 1000000 in
theorem pick_any (tb q b n : Nat) (ls : List ByteArray) (w : World) (ht : Tp w tb (q + 1)) (hn : ls.length = n) (hn1 : 1 ≤ n) (hn2 : n ≤ 1000000) (hb : b < w.heap.size) (hne : b ≠ tb)
    (hp : ∀ i s, ls[i]? = some s → w.cell? ⟨b, i, none⟩ = some (.string s)) :
    Calls Tryz.prog 28 #[.pointer (some ⟨tb, 0, none⟩), .slice (some ⟨b, 0, none⟩) n n] w fun e w' => ∃ s ∈ ls, e = .returned (.string s) ∧ Tp w' tb q ∧ Turn tb w w' := by
  have HT := Lib.hid ht; have HP := Lib.hid hp; have HN := Lib.hid hn
  clear ht hp hn
  go_enter Tryz.func28, Tryz.ntmps28
  go_wp2_with fail
  refine (next_any tb n q w HT.out hn1 hn2).mono ?_
  rintro e w1 ⟨r, rfl, hr, ht1, hu1⟩
  have HT1 := Lib.hid ht1; have HU1 := Lib.hid hu1; clear ht1 hu1
  obtain ⟨s, hs⟩ : ∃ s, ls[r]? = some s := ⟨ls[r]'(by have := HN.out; omega), List.getElem?_eq_getElem _⟩
  have h1 : w1.cell? ⟨b, r, none⟩ = some (.string s) := (HU1.out.cell hb hne).trans (HP.out r s hs)
  have h2 : w1.cell? ⟨b, 0 + r, none⟩ = some (.string s) := by rw [Nat.zero_add]; exact h1
  have HS := Lib.hid (List.mem_of_getElem? hs)
  have p1 : (0 : Int) ≤ (r : Int) := by omega
  have p2 : (r : Int) < (n : Int) := by omega
  clear hs
  go_wp2_with fail
  go_ret
  exact ⟨s, HS.out, rfl, HT1.out, HU1.out⟩
theorem strs_alloc (ls : List ByteArray) (w : World) (t : TypeId) (i : Nat) (s : ByteArray) (h : ls[i]? = some s) : (w.alloc (.cells (ls.map Value.string).toArray t)).cell? ⟨w.heap.size, i, none⟩ = some (.string s) := by
  rw [cell_of_row _ w.heap.size i _ _ _ (heap_alloc_new w _)]
  simp [h]
theorem pick_new (tb q n : Nat) (ls : List ByteArray) (w : World) (ht : Tp w tb (q + 1)) (hn : ls.length = n) (hn1 : 1 ≤ n) (hn2 : n ≤ 1000000) :
    Calls Tryz.prog 28 #[.pointer (some ⟨tb, 0, none⟩), .slice (some ⟨w.heap.size, 0, none⟩) n n] (w.alloc (.cells (ls.map Value.string).toArray 9)) fun e w' => ∃ s ∈ ls, e = .returned (.string s) ∧ Tp w' tb q ∧ Turn tb w w' := by
  have hb : Below w.heap.size w (w.alloc (.cells (ls.map Value.string).toArray 9)) := (Below.refl _ _).alloc (Nat.le_refl _) _
  have hlt := ht.lt
  refine (pick_any tb q w.heap.size n ls _ (ht.of hb) hn hn1 hn2 (Array.getElem?_eq_some_iff.1 (heap_alloc_new w _)).1 (by omega) (strs_alloc ls w _)).mono ?_
  rintro e w' ⟨s, hs, he, h1, h2⟩
  exact ⟨s, hs, he, h1, (Turn.of hb).trans h2⟩
theorem results_row1 {P : Program} {fn : Func} {p : Tmp} {ty : TypeId} (h : fn.results = #[.cell p ty]) (tmps : Array Value) (w : World) (g : Nat) (t : TypeId) (cs : Array Value) (fr : Nat × Nat) (d : TypeDesc)
    (hp : tmps.getD p undef = .pointer (some ⟨g, 0, none⟩)) (hg : w.heap[g]? = some (.cells cs t fr))
    (hu : P.underlying ty = some d) (hd : (match d with | .struct _ | .array _ _ => true | _ => false) = true) (hi : (P.info? ty).map (·.size) = some cs.size) :
    (results fn tmps).run P w = .ok (.agg cs) w := by
  have hp' : tmps[p]?.getD undef = .pointer (some ⟨g, 0, none⟩) := by simpa using hp
  simp [results, h, hp', asAddr, run_loadVar_row w g t ty cs fr d hg hu hd hi]
end Go.Proofs.YtceeilojcifgeaaGreatDoor
