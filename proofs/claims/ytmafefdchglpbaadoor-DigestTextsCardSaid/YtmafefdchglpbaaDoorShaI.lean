/-
  The walk of digest.sum: it returns the digest of all parts together (conditions: the parts read as lists of bytes whose lengths add up to at most 2^40; the table of constants reads as it is laid).
-/
import Derived.Test.YtmafefdchglpbaaDoorShaH
namespace Go.Proofs.YtmafefdchglpbaaDoor
open Go.RowKit

/-- one part: a slice's value and the bytes that it reads as -/
structure Part where
  sp : Option Addr
  n : Nat
  cap : Nat
  b : List Int
def Part.val (q : Part) : Value := .slice q.sp q.n q.cap
def cat (ps : List Part) : List Int := (ps.map Part.b).flatten
theorem cat_take_succ (ps : List Part) (k : Nat) (h : k < ps.length) : cat (ps.take (k + 1)) = cat (ps.take k) ++ ps[k].b := by
  unfold cat; rw [List.take_succ_eq_append_getElem h, List.map_append, List.flatten_append]; simp
theorem cat_take_le (ps : List Part) (k : Nat) : (cat (ps.take k)).length ≤ (cat ps).length := by
  unfold cat
  have : ps = ps.take k ++ ps.drop k := (List.take_append_drop k ps).symm
  conv => rhs; rw [this]
  rw [List.map_append, List.flatten_append, List.length_append]
  exact Nat.le_add_right _ _

theorem Src.more {w : World} {B B' : Nat} {sp : Option Addr} {n cap : Nat} {b : List Int} (h : Src w B sp n cap b) (hB : B ≤ B') : Src w B' sp n cap b :=
  ⟨h.len, h.byt, fun hn => by
    obtain ⟨bb, off, e, hlt, hc, hcell⟩ := h.cells hn
    exact ⟨bb, off, e, by omega, hc, hcell⟩⟩

/-- a slice of parts, all below block B -/
structure PartsIn (w : World) (B : Nat) (pa : Option Addr) (np : Nat) (ps : List Part) : Prop where
  len : ps.length = np
  cells : 0 < np → ∃ pb po, pa = some ⟨pb, po, none⟩ ∧ pb < B ∧ ∀ j (hj : j < ps.length), w.cell? ⟨pb, po + j, none⟩ = some ps[j].val
  srcs : ∀ q ∈ ps, Src w B q.sp q.n q.cap q.b
theorem PartsIn.below {w w' : World} {B B' : Nat} {pa : Option Addr} {np : Nat} {ps : List Part} (h : PartsIn w B pa np ps) (hb : Below B' w w') (hB : B ≤ B') : PartsIn w' B' pa np ps :=
  ⟨h.len, fun hn => by
    obtain ⟨pb, po, e, hlt, hc⟩ := h.cells hn
    exact ⟨pb, po, e, by omega, fun j hj => (hb.cell (p := ⟨pb, po + j, none⟩) (by show pb < B'; omega)).trans (hc j hj)⟩, fun q hq => ((h.srcs q hq).below hb hB).more hB⟩

/-- the bytes of the digest of l, as an array's value -/
def dg (l : List Int) : Array Value := ((dbytes (sha l).list).map (Value.int .u8)).toArray
def SumRes (w : World) (l : List Int) (e : Ending) (w' : World) : Prop := e = .returned (.agg (dg l)) ∧ Below w.heap.size w w'

set_option maxRecDepth 100000 in
set_option maxHeartbeats 1000000 in
theorem sum_any (pa : Option Addr) (np ncap : Nat) (ps : List Part) (w : World) (hp : PartsIn w w.heap.size pa np ps) (hk : KayIn w) (hk0 : 2 < w.heap.size) (hbd : (cat ps).length ≤ 1099511627776) (hnp : np ≤ 1099511627776) :
    Calls Tryd.prog 60 #[.slice pa np ncap] w (SumRes w (cat ps)) := by
  have HK := Lib.hid hk; clear hk
  have HP := Lib.hid hp; clear hp
  have hres : RowIn (w.alloc (.cells (Array.replicate 32 (Value.int .u8 0)) 23)) w.heap.size 23 .u8 (List.replicate 32 0) := heap_alloc_new _ _
  have hbe0 : Below w.heap.size w (w.alloc (.cells (Array.replicate 32 (Value.int .u8 0)) 23)) := (Below.refl _ _).alloc (Nat.le_refl _) _
  have HRES := Lib.hid hres; have HBE0 := Lib.hid hbe0; clear hres hbe0
  have hz := zero60
  go_enter Tryd.func60, Tryd.ntmps60
  go_wp2_with fail
  generalize hw0 : World.alloc w _ = w0
  have hres : RowIn w0 w.heap.size 23 .u8 (List.replicate 32 0) := by rw [← hw0]; exact HRES.out
  have hbe0 : Below w.heap.size w w0 := by rw [← hw0]; exact HBE0.out
  clear hw0 HRES HBE0
  refine (newHash_any w0).mono ?_
  rintro e w1 ⟨rfl, hb1⟩
  have hres1 := hres.below hb1 hres.lt
  have hbe1 := hbe0.trans (hb1.mono hbe0.size)
  have hsz1 := hres1.lt
  clear hb1 hres hbe0
  have H0 := Lib.hid (heap_alloc_new w1 (.cells zhash 100))
  have HI : Hid ((Tryd.prog.info? 100).map (·.size) = some ihash.size) := Tryd.info60h
  go_wp2_with (refine wpList_store_row rfl 100 _ _ rfl w1.heap.size ihash rfl rfl 100 zhash H0.out HI.out rfl ihash_one ?_)
  generalize hw2 : World.setRow _ _ _ = w2
  have hh2 : HashIn w2 w1.heap.size iv (List.replicate 64 0) 0 0 := ⟨by rw [← hw2]; exact setRow_heap _ _ _ _ _ _ H0.out, by simp⟩
  have hb2 : Below w1.heap.size w1 w2 := by rw [← hw2]; exact below_setRow ((Below.refl _ _).alloc (Nat.le_refl _) _) (Nat.le_refl _) _
  have hres2 := hres1.below hb2 hsz1
  have hbe2 := hbe1.trans (hb2.mono (Nat.le_of_lt hsz1))
  have hp2 : PartsIn w2 w1.heap.size pa np ps := (HP.out.below hbe2 (Nat.le_refl _)).below (Below.refl w1.heap.size w2) (Nat.le_of_lt hsz1)
  have HP2 := Lib.hid hp2
  have hlen := hp2.len
  have HLEN := Lib.hid hlen
  have hlen1 : np ≤ ps.length := by omega
  clear hp2 hlen hw2 H0 HI hz hres1 hbe1 hb2 HP
  generalize w1.heap.size = g at *
  go_loopw [9] (fun i wr => ∃ k : Nat, k ≤ np ∧ i = .int .i64 k ∧ (∃ st rest used len, HashIn wr g st rest used len ∧ Has (cat (ps.take k)) st rest used len) ∧ Below g w2 wr) (fun i _ => np - (intOf i).toNat)
  case atStart => exact ⟨0, by omega, rfl, ⟨_, _, _, _, hh2, Has.start _ (Byt.zeros 64)⟩, Below.refl _ _⟩
  case round =>
    obtain ⟨k, hkn, rfl, ⟨st, rest, used, len, hhr, har⟩, hber⟩ := hrel
    have HAR := Lib.hid har; clear har
    have hkr : KayIn wr := HK.out.below (hbe2.trans (hber.mono (Nat.le_of_lt hsz1))) hk0
    have HKR := Lib.hid hkr; clear hkr
    by_cases hlt : k < np
    · have hk2 : k < ps.length := by omega
      obtain ⟨pb, po, rfl, hpb, hcell⟩ := HP2.out.cells (by omega)
      have ck : wr.cell? ⟨pb, po + k, none⟩ = some (.slice ps[k].sp ps[k].n ps[k].cap) := (hber.cell (p := ⟨pb, po + k, none⟩) hpb).trans (hcell k hk2)
      have hsr : Src wr g ps[k].sp ps[k].n ps[k].cap ps[k].b := (HP2.out.srcs _ (List.getElem_mem hk2)).below hber (Nat.le_refl _)
      have HSR := Lib.hid hsr; clear hsr
      have hcs := cat_take_succ ps k hk2
      have hcl := cat_take_le ps (k + 1)
      rw [hcs, List.length_append, HSR.out.len] at hcl
      have HCS := Lib.hid hcs; clear hcs hcell
      generalize ps[k].sp = sp at *
      generalize ps[k].n = n at *
      generalize ps[k].cap = cap at *
      generalize ps[k].b = b at *
      go_wp2_with fail
      refine (write_any g sp n cap b (cat (ps.take k)) st rest used len wr hhr HAR.out HSR.out HKR.out (by omega) (by omega)).mono ?_
      rintro e w3 ⟨rfl, hx, hb3⟩
      go_wp2
      go_roundw
      case rel => exact ⟨k + 1, by omega, by go_num, by rw [HCS.out]; exact hx, hber.trans hb3⟩
      case measure => simp [intOf]; omega
    · obtain rfl : k = np := by omega
      have hall : cat (ps.take k) = cat ps := by rw [List.take_of_length_le (by rw [HLEN.out]; exact Nat.le_refl _)]
      rw [hall] at HAR
      clear hall
      go_wp2_with fail
      refine (finish_any g (cat ps) st rest used len wr hhr HAR.out HKR.out (by omega) hbd).mono ?_
      rintro e w4 ⟨rfl, hb4⟩
      have hres4 := hres2.below (hber.trans hb4) hsz1
      have hbe4 := hbe2.trans ((hber.trans hb4).mono (Nat.le_of_lt hsz1))
      clear hres2 hbe2 hb4 hber hhr HAR
      have H2 := Lib.hid hres4; clear hres4
      have hi1 : (Tryd.prog.info? 23).map (·.size) = some ((dbytes (sha (cat ps)).list).map (Value.int .u8)).toArray.size := by
        rw [List.size_toArray, List.length_map, dbytes_length, St.list_length]; exact Tryd.info25d
      have HI := Lib.hid hi1; clear hi1
      have hone := oneCell_map .u8 (dbytes (sha (cat ps)).list)
      have hsz : ((List.replicate 32 0).map (Value.int .u8)).toArray.size = ((dbytes (sha (cat ps)).list).map (Value.int .u8)).toArray.size := by simp [dbytes_length, St.list_length]
      have HO := Lib.hid hone; have HZ := Lib.hid hsz; clear hone hsz
      generalize hL : dbytes (sha (cat ps)).list = L at *
      have HL := Lib.hid hL; clear hL
      go_wp2_with (refine wpList_store_row rfl 23 _ _ rfl w.heap.size _ rfl rfl 23 _ H2.out HI.out HZ.out HO.out ?_)
      exact bodyPost_ret (results_cell_row (P := Tryd.prog) rfl _ _ w.heap.size 23 _ (0, 0) _ rfl (H2.out.setRow _) Tryd.underlying23 rfl HI.out) rfl ⟨by rw [dg, HL.out], below_setRow hbe4 (Nat.le_refl _) _⟩
end Go.Proofs.YtmafefdchglpbaaDoor
