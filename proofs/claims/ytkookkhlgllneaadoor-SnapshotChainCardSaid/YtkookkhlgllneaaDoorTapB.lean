/-
  The tape of the statements: the walks of Pick, Sum, Path.
-/
import Derived.Test.YtkookkhlgllneaaDoorTapA
import Derived.Test.YtkookkhlgllneaaDoorSnR
namespace Go.Proofs.YtkookkhlgllneaaDoor
open Go.RowKit

theorem Turn.cell {tb b o : Nat} {w w' : World} (h : Turn tb w w') (hb : b < w.heap.size) (hne : b ≠ tb) : w'.cell? ⟨b, o, none⟩ = w.cell? ⟨b, o, none⟩ := World.cell?_of_block (a := ⟨b, o, none⟩) (h.block b hb hne)
set_option maxRecDepth 100000 in
set_option maxHeartbeats 1000000 in
theorem pick_any (tb q b n : Nat) (ls : List ByteArray) (w : World) (ht : Tp w tb (q + 1)) (hn : ls.length = n) (hn1 : 1 ≤ n) (hn2 : n ≤ 1000000) (hb : b < w.heap.size) (hne : b ≠ tb)
    (hp : ∀ i s, ls[i]? = some s → w.cell? ⟨b, i, none⟩ = some (.string s)) :
    Calls Tryd.prog 68 #[.pointer (some ⟨tb, 0, none⟩), .slice (some ⟨b, 0, none⟩) n n] w fun e w' => ∃ s ∈ ls, e = .returned (.string s) ∧ Tp w' tb q ∧ Turn tb w w' := by
  have HT := Lib.hid ht; have HP := Lib.hid hp; have HN := Lib.hid hn
  clear ht hp hn
  go_enter Tryd.func68, Tryd.ntmps68
  go_wp2_with fail
  refine (next_any tb n q w HT.out hn1 hn2).mono ?_
  rintro e w1 ⟨r, rfl, hr, ht1, hu1⟩
  have HT1 := Lib.hid ht1; have HU1 := Lib.hid hu1; clear ht1 hu1
  obtain ⟨s, hs⟩ : ∃ s, ls[r]? = some s := ⟨ls[r]'(by have := HN.out; omega), List.getElem?_eq_getElem _⟩
  have h1 : w1.cell? ⟨b, r, none⟩ = some (.string s) := (HU1.out.cell hb hne).trans (HP.out r s hs)
  have h2 : w1.cell? ⟨b, 0 + r, none⟩ = some (.string s) := by rw [Nat.zero_add]; exact h1
  have HS := Lib.hid (List.mem_of_getElem? hs)
  have p1 : (0 : Int) ≤ (r : Int) := by omega
  have p2 : (r : Int) < (n : Int) := by omega
  clear hs
  go_wp2_with fail
  go_ret
  exact ⟨s, HS.out, rfl, HT1.out, HU1.out⟩

theorem results_row1 {P : Program} {fn : Func} {p : Tmp} {ty : TypeId} (h : fn.results = #[.cell p ty]) (tmps : Array Value) (w : World) (g : Nat) (t : TypeId) (cs : Array Value) (fr : Nat × Nat) (d : TypeDesc)
    (hp : tmps.getD p undef = .pointer (some ⟨g, 0, none⟩)) (hg : w.heap[g]? = some (.cells cs t fr))
    (hu : P.underlying ty = some d) (hd : (match d with | .struct _ | .array _ _ => true | _ => false) = true) (hi : (P.info? ty).map (·.size) = some cs.size) :
    (results fn tmps).run P w = .ok (.agg cs) w := by
  have hp' : tmps[p]?.getD undef = .pointer (some ⟨g, 0, none⟩) := by simpa using hp
  simp [results, h, hp', asAddr, run_loadVar_row w g t ty cs fr d hg hu hd hi]
theorem Turn.setRow {tb g : Nat} {w w1 : World} (h : Turn tb w w1) (hg : w.heap.size ≤ g) (cs : Array Value) : Turn tb w (w1.setRow g cs) := by
  have hb := below_setRow (Below.refl w.heap.size w1) hg cs
  exact ⟨hb.os.trans h.os, hb.tape.trans h.tape, hb.output.trans h.output, Nat.le_trans h.size hb.size, fun k hk hn => (hb.block k hk).trans (h.block k hk hn)⟩
def dg1 (r : Nat) : List Int := (1 + (r : Int)) :: List.replicate 31 0
theorem dg1_ok (r : Nat) (h : r < 6) : D32 (dg1 r) := ⟨rfl, fun x hx => by
  rcases List.mem_cons.1 hx with rfl | h
  · omega
  · rw [List.eq_of_mem_replicate h]; omega⟩
theorem dg1_ne (r : Nat) : dg1 r ≠ zed := fun e => by
  have : (1 + (r : Int)) = 0 := by
    have h2 := congrArg (fun l : List Int => l.getD 0 0) e
    exact h2
  omega
theorem buildD1 (x : Int) (w : World) : (Instr.build 28 #[(0, .int .u8 x)]).run Tryd.prog w = .ok (.agg ((x :: List.replicate 31 0).map (Value.int .u8)).toArray) w := by kernel_rfl
set_option maxRecDepth 100000 in
set_option maxHeartbeats 1000000 in
theorem tsum_any (tb q : Nat) (w : World) (ht : Tp w tb (q + 1)) :
    Calls Tryd.prog 60 #[.pointer (some ⟨tb, 0, none⟩)] w fun e w' => ∃ d : List Int, e = .returned (.agg (d.map (Value.int .u8)).toArray) ∧ D32 d ∧ d ≠ zed ∧ Tp w' tb q ∧ Turn tb w w' := by
  have HT := Lib.hid ht; clear ht
  go_enter Tryd.func60, Tryd.ntmps60
  go_wp2_with fail
  generalize hw0 : World.alloc w _ = w0
  have hr0 : w0.heap[w.heap.size]? = some (.cells (Array.replicate 32 (Value.int .u8 0)) 28 (0, 0)) := by rw [← hw0]; exact heap_alloc_new _ _
  have hb0 : Below w.heap.size w w0 := by rw [← hw0]; exact (Below.refl _ _).alloc (Nat.le_refl _) _
  have HTL := Lib.hid HT.out.lt
  have HR0 := Lib.hid hr0; have HB0 := Lib.hid hb0
  have HT0 := Lib.hid (HT.out.of hb0)
  clear hw0 hr0 hb0
  refine (next_any tb 6 q w0 HT0.out (by omega) (by omega)).mono ?_
  rintro e w1 ⟨r, rfl, hr, ht1, hu1⟩
  have hlt0 : w.heap.size < w0.heap.size := (Array.getElem?_eq_some_iff.1 HR0.out).1
  have HR1 := Lib.hid ((hu1.block w.heap.size hlt0 (by have := HTL.out; omega)).trans HR0.out)
  have HT1 := Lib.hid ht1
  have HU1 := Lib.hid ((Turn.of (tb := tb) HB0.out).trans hu1); clear ht1 hu1
  have q1 : IntKind.u8.wrap (1 + (r : Int)) = 1 + (r : Int) := by unfold IntKind.wrap; simp [IntKind.signed, IntKind.bits]; omega
  have HOK := Lib.hid (dg1_ok r hr)
  have HI1 : Hid ((Tryd.prog.info? 28).map (·.size) = some ((dg1 r).map (Value.int .u8)).toArray.size) := by show _ = _; rw [List.size_toArray]; exact info_d HOK.out
  have HI1s : Hid (32 = ((dg1 r).map (Value.int .u8)).toArray.size) := by show _ = _; rfl
  go_wp2_with (first
    | (refine wpList_build_eq rfl 28 [(0, .tmp 6)] rfl [(0, .int .u8 (1 + (r : Int)))] rfl _ (buildD1 _ _) ?_)
    | (refine wpList_store_row rfl 28 _ _ rfl w.heap.size ((dg1 r).map (Value.int .u8)).toArray rfl rfl 28 _ HR1.out HI1.out ((rfl : (Array.replicate 32 (Value.int .u8 0)).size = 32).trans HI1s.out) (dgA_one _) ?_))
  refine bodyPost_ret (results_row1 (P := Tryd.prog) rfl _ _ w.heap.size 28 _ (0, 0) _ rfl (setRow_heap _ _ _ _ _ _ HR1.out) Tryd.underlying28 rfl HI1.out) rfl ?_
  exact ⟨dg1 r, rfl, HOK.out, dg1_ne r, HT1.out.ofB (below_setRow (Below.refl w.heap.size w1) (Nat.le_refl _) _) HTL.out, HU1.out.setRow (Nat.le_refl _) _⟩

def dirsT : List ByteArray := [⟨#[97]⟩, ⟨#[98]⟩, ⟨#[115, 114, 99]⟩, ⟨#[111, 117, 116]⟩, ⟨#[108, 105, 98]⟩]
def filesT : List ByteArray := [⟨#[97]⟩, ⟨#[98]⟩, ⟨#[97, 46, 99]⟩, ⟨#[98, 46, 104]⟩, ⟨#[120]⟩, ⟨#[111, 117, 116]⟩]
def preT : Nat → List ByteArray
  | 0 => [⟨#[]⟩]
  | j + 1 => (preT j).flatMap fun s => dirsT.map fun d => s ++ d ++ ⟨#[47]⟩
theorem paths_ok : ∀ j, j < 3 → ∀ s ∈ preT j, ∀ f ∈ filesT, pathB (s ++ f) = true := by decide +kernel
theorem preT_size : ∀ j, j < 3 → ∀ s ∈ preT j, s.size ≤ 100 := by decide +kernel
theorem dirsT_size : ∀ d ∈ dirsT, d.size ≤ 100 := by decide +kernel
theorem filesT_size : ∀ d ∈ filesT, d.size ≤ 100 := by decide +kernel
theorem preT_next {j : Nat} {s d : ByteArray} (h : s ∈ preT j) (hd : d ∈ dirsT) : s ++ d ++ ⟨#[47]⟩ ∈ preT (j + 1) := List.mem_flatMap.2 ⟨s, h, List.mem_map.2 ⟨d, hd, rfl⟩⟩
theorem strs_alloc (ls : List ByteArray) (w : World) (t : TypeId) (i : Nat) (s : ByteArray) (h : ls[i]? = some s) : (w.alloc (.cells (ls.map Value.string).toArray t)).cell? ⟨w.heap.size, i, none⟩ = some (.string s) := by
  rw [cell_of_row _ w.heap.size i _ _ _ (heap_alloc_new w _)]
  simp [h]
theorem pick_new (tb q n : Nat) (ls : List ByteArray) (w : World) (ht : Tp w tb (q + 1)) (hn : ls.length = n) (hn1 : 1 ≤ n) (hn2 : n ≤ 1000000) :
    Calls Tryd.prog 68 #[.pointer (some ⟨tb, 0, none⟩), .slice (some ⟨w.heap.size, 0, none⟩) n n] (w.alloc (.cells (ls.map Value.string).toArray 9)) fun e w' => ∃ s ∈ ls, e = .returned (.string s) ∧ Tp w' tb q ∧ Turn tb w w' := by
  have hb : Below w.heap.size w (w.alloc (.cells (ls.map Value.string).toArray 9)) := (Below.refl _ _).alloc (Nat.le_refl _) _
  have hlt := ht.lt
  refine (pick_any tb q w.heap.size n ls _ (ht.of hb) hn hn1 hn2 (Array.getElem?_eq_some_iff.1 (heap_alloc_new w _)).1 (by omega) (strs_alloc ls w _)).mono ?_
  rintro e w' ⟨s, hs, he, h1, h2⟩
  exact ⟨s, hs, he, h1, (Turn.of hb).trans h2⟩
set_option maxRecDepth 100000 in
set_option maxHeartbeats 1000000 in
theorem path_any (tb q : Nat) (w : World) (ht : Tp w tb (q + 4)) :
    Calls Tryd.prog 59 #[.pointer (some ⟨tb, 0, none⟩)] w fun e w' => ∃ s : ByteArray, e = .returned (.string s) ∧ pathB s = true ∧ Tp w' tb q ∧ Turn tb w w' := by
  have HT := Lib.hid ht; clear ht
  go_enter Tryd.func59, Tryd.ntmps59
  go_wp2_with fail
  refine (next_any tb 3 (q + 3) w HT.out (by omega) (by omega)).mono ?_
  rintro e w1 ⟨r, rfl, hr, ht1, hu1⟩
  have HT1 := Lib.hid ht1; have HU1 := Lib.hid hu1; clear ht1 hu1
  go_wp2_with fail
  go_loopw [3, 4] (fun v i wr => ∃ (j n : Nat) (s : ByteArray), j + n = r ∧ i = .int .i64 n ∧ v = .string s ∧ Hid (s ∈ preT j) ∧ Hid (Tp wr tb (q + 1 + n)) ∧ Hid (Turn tb w wr)) (fun _ i _ => (intOf i).toNat)
  case atStart => exact ⟨0, r, _, by omega, rfl, rfl, by show _ ∈ _; exact List.mem_singleton.2 rfl, HT1.out.le (by omega), HU1.out⟩
  case round =>
  clear HT1 HU1
  obtain ⟨j, n, s, hj, rfl, rfl, HS, HTT, HU⟩ := hrel
  by_cases hn : 0 < n
  · have hd : decide ((n : Int) > 0) = true := by simp; omega
    have q1 : IntKind.i64.wrap ((n : Int) - 1) = (n : Int) - 1 := IntWalk.i64_in _ (by omega)
    go_wp2_with fail
    refine (pick_new tb (q + n) 5 dirsT wr (HTT.out.le (by omega)) rfl (by omega) (by omega)).mono ?_
    rintro e w2 ⟨d, hdm, rfl, ht2, hu2⟩
    have HS2 := Lib.hid (preT_next HS.out hdm)
    have z1 := preT_size j (by omega) s HS.out
    have z2 := dirsT_size d hdm
    have g1 : s.size + d.size ≤ 9223372036854775807 := by omega
    have g2 : s.size + d.size + 1 ≤ 9223372036854775807 := by omega
    have HT2 := Lib.hid ht2; have HU2 := Lib.hid (HU.out.trans hu2)
    clear ht2 hu2 hdm
    go_wp2_with fail
    go_roundw
    case rel => exact ⟨j + 1, n - 1, s ++ d ++ ⟨#[47]⟩, by omega, by go_num, rfl, HS2, HT2.out.le (by omega), HU2⟩
    case measure => simp [intOf]; omega
  · obtain rfl : n = 0 := by omega
    have HO := Lib.hid (paths_ok j (by omega) s HS.out)
    go_wp2_with fail
    refine (pick_new tb q 6 filesT wr (HTT.out.le (by omega)) rfl (by omega) (by omega)).mono ?_
    rintro e w2 ⟨f, hfm, rfl, ht2, hu2⟩
    have HF := Lib.hid (HO.out f hfm)
    have z1 := preT_size j (by omega) s HS.out
    have z2 := filesT_size f hfm
    have g1 : s.size + f.size ≤ 9223372036854775807 := by omega
    have HT2 := Lib.hid ht2; have HU2 := Lib.hid (HU.out.trans hu2)
    clear ht2 hu2 hfm
    go_wp2_with fail
    go_ret
    exact ⟨_, rfl, HF.out, HT2.out, HU2.out⟩
end Go.Proofs.YtkookkhlgllneaaDoor
