/-
  The tape of the statements: the walks of Snapshot and Edit: what they make are snapshots.
-/
import Derived.Test.YtkookkhlgllneaaDoorTapD
namespace Go.Proofs.YtkookkhlgllneaaDoor
open Go.RowKit

/-- a snapshot, of any length -/
structure Snap (l : List En) : Prop where
  srt : Srt En.p l
  path : ∀ x ∈ l, pathB x.p = true
  some : ∀ x ∈ l, x.d ≠ zed
theorem Snap.nil : Snap [] := ⟨List.Pairwise.nil, by simp, by simp⟩
theorem Snap.put {l : List En} {x : En} (h : Snap l) (hp : pathB x.p = true) (hd : x.d ≠ zed) : Snap (putT l x) := by
  refine ⟨(sansP_srt h.srt).ins sansP_ne, fun z hz => ?_, fun z hz => ?_⟩ <;> rcases mem_ins.1 hz with rfl | hz
  · exact hp
  · exact h.path z (List.mem_filter.1 hz).1
  · exact hd
  · exact h.some z (List.mem_filter.1 hz).1
theorem putT_length (l : List En) (x : En) : (putT l x).length ≤ l.length + 1 := by
  unfold putT
  rw [length_ins]
  have := sansP_len l x.p
  omega
theorem Snap.drop {l : List En} (h : Snap l) (i : Nat) : Snap (l.take i ++ l.drop (i + 1)) := by
  have hs : (l.take i ++ l.drop (i + 1)).Sublist l := by rw [← List.eraseIdx_eq_take_drop_succ]; exact List.eraseIdx_sublist l i
  exact ⟨List.Pairwise.sublist hs h.srt, fun z hz => h.path z (hs.subset hz), fun z hz => h.some z (hs.subset hz)⟩
/-- a slice that doesn't lie in the tape's block -/
def ApartT (tb : Nat) (sp : Option Addr) : Prop := ∀ b o, sp = some ⟨b, o, none⟩ → b ≠ tb
theorem EnsIn.turn {w w' : World} {tb : Nat} {sp : Option Addr} {n cap : Nat} {l : List En} (h : EnsIn w w.heap.size sp n cap l) (ha : ApartT tb sp) (hu : Turn tb w w') : EnsIn w' w'.heap.size sp n cap l :=
  ⟨h.len, h.ok, fun hn => by
    obtain ⟨b, off, e, hlt, hc, hr⟩ := h.cells hn
    exact ⟨b, off, e, Nat.lt_of_lt_of_le hlt hu.size, hc, fun i x hi j v hv => (World.cell?_of_block (a := ⟨b, off + i * 33 + j, none⟩) (hu.block b hlt (ha b off e))).trans (hr i x hi j v hv)⟩⟩
theorem OwnE.apart {w : World} {B n cap tb : Nat} {sp : Option Addr} {l : List En} (h : OwnE w B (.slice sp n cap) l) (hB : tb < B) : ApartT tb sp := by
  rintro b o rfl
  obtain ⟨_, ⟨e, _⟩ | ⟨g, c, u, e, hg, _⟩⟩ := h.1
  · cases e
  · injection e with e
    injection e with e; injection e with e
    omega
set_option maxRecDepth 100000 in
set_option maxHeartbeats 1000000 in
theorem snapshot_any (tb m q : Nat) (w : World) (ht : Tp w tb (q + 1 + 5 * m)) (hm : m ≤ 1000) :
    Calls Tryd.prog 20 #[.pointer (some ⟨tb, 0, none⟩), .int .i64 m] w fun e w' => ∃ sp n cap l, e = .returned (.slice sp n cap) ∧ EnsIn w' w'.heap.size sp n cap l ∧ ApartT tb sp ∧ Snap l ∧ n ≤ m ∧ Tp w' tb q ∧ Turn tb w w' := by
  have HT := Lib.hid ht; clear ht
  have hnx := next_any tb (m + 1) (q + 5 * m) w (HT.out.le (by omega)) (by omega) (by omega)
  rw [show ((m + 1 : Nat) : Int) = (m : Int) + 1 from by omega] at hnx
  have HNX := Lib.hid hnx
  have q0 : IntKind.i64.wrap ((m : Int) + 1) = (m : Int) + 1 := IntWalk.i64_in _ (by omega)
  clear hnx
  go_enter Tryd.func20, Tryd.ntmps20
  go_wp2_with fail
  refine HNX.out.mono ?_
  rintro e w1 ⟨r, rfl, hr, ht1, hu1⟩
  have HT1 := Lib.hid ht1; have HU1 := Lib.hid hu1; clear ht1 hu1 HNX
  go_wp2_with fail
  go_loopw [5, 6] (fun v i wr => ∃ (c N cap : Nat) (sp : Option Addr) (l : List En), N + c ≤ m ∧ i = .int .i64 c ∧ v = .slice sp N cap ∧ Hid (EnsIn wr wr.heap.size sp N cap l) ∧ Hid (ApartT tb sp) ∧ Hid (Snap l) ∧ Hid (Tp wr tb (q + 5 * c)) ∧ Hid (Turn tb w wr)) (fun _ i _ => (intOf i).toNat)
  case atStart => exact ⟨r, 0, 0, none, [], by omega, rfl, rfl, ⟨rfl, by simp, fun h => by omega⟩, (by rintro b o h; cases h), Snap.nil, HT1.out.le (by omega), HU1.out⟩
  case round =>
  clear HT1 HU1
  obtain ⟨c, N, cap, sp, l, hc, rfl, rfl, HE, HA, HSN, HTT, HU⟩ := hrel
  by_cases hn : 0 < c
  · have hd : decide ((c : Int) > 0) = true := by simp; omega
    have q1 : IntKind.i64.wrap ((c : Int) - 1) = (c : Int) - 1 := IntWalk.i64_in _ (by omega)
    go_wp2_with fail
    refine (path_any tb (q + 5 * (c - 1) + 1) wr (HTT.out.le (by omega))).mono ?_
    rintro e w2 ⟨p, rfl, hp, ht2, hu2⟩
    have HPB := Lib.hid hp
    have HT2 := Lib.hid ht2; have HE2 := Lib.hid (HE.out.turn HA.out hu2); have HU2 := Lib.hid (HU.out.trans hu2)
    clear ht2 hu2 hp
    go_wp2_with fail
    refine (tsum_any tb (q + 5 * (c - 1)) w2 HT2.out).mono ?_
    rintro e w3 ⟨d, rfl, hd32, hdz, ht3, hu3⟩
    have HDO := Lib.hid hd32; have HDZ := Lib.hid hdz
    have HT3 := Lib.hid ht3; have HE3 := Lib.hid (HE2.out.turn HA.out hu3); have HU3 := Lib.hid (HU2.out.trans hu3)
    clear ht3 hu3 hd32 hdz
    go_wp2_with (refine wpList_build_eq rfl 70 [(0, .tmp 17), (1, .tmp 19)] rfl [(0, .string p), (1, .agg (d.map (Value.int .u8)).toArray)] rfl _ (buildE p d HDO.out.1 _) ?_)
    refine (Put_any sp N cap l ⟨p, d⟩ w3 HE3.out HSN.out.srt HDO.out (by omega)).mono ?_
    rintro e w4 ⟨g, n', cap', rfl, hg, he4, hb4⟩
    have HE4 := Lib.hid he4
    have HT4 := Lib.hid (HT3.out.of hb4)
    have HU4 := Lib.hid (HU3.out.trans (Turn.of hb4))
    have HSN4 := Lib.hid (HSN.out.put (x := ⟨p, d⟩) HPB.out HDZ.out)
    have htl := HT3.out.lt
    have hlen : n' ≤ N + 1 := by
      have h1 := HE4.out.len
      have h2 := putT_length l ⟨p, d⟩
      have h3 := HE3.out.len
      omega
    have HA4 : Hid (ApartT tb (some ⟨g, 0, none⟩)) := by
      show ApartT _ _
      rintro b o h
      injection h with h; injection h with h
      omega
    clear he4 hb4
    go_wp2_with fail
    go_roundw
    case rel => exact ⟨c - 1, n', cap', _, _, by omega, by go_num, rfl, HE4, HA4, HSN4, HT4, HU4⟩
    case measure => simp [intOf]; omega
  · obtain rfl : c = 0 := by omega
    go_wp2_with fail
    go_ret
    exact ⟨_, _, _, l, rfl, HE.out, HA.out, HSN.out, by omega, HTT.out.le (by omega), HU.out⟩
end Go.Proofs.YtkookkhlgllneaaDoor
