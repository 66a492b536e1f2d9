/-
  The walk of (*digest.hash).addBlock: it turns the state of the hash by the block (conditions: the hash lies in a block of its own behind the table of constants, and the block's cells read as the list p of bytes).
-/
import Derived.Test.YtmafefdchglpbaaDoorShaB
namespace Go.Proofs.YtmafefdchglpbaaDoor
open Go.RowKit

theorem quiet_same {P : Program} {f : FuncId} {args : Array Value} {w : World} {n : Nat} {v : Value}
    (h : Calls P f args (w.drewN n) fun e w' => e = .returned v ∧ w.drewN n = w') : Calls P f args (w.drewN n) fun e w'' => e = .returned v ∧ ∃ m, w'' = w.drewN m :=
  h.mono fun _ _ ⟨he, hm⟩ => ⟨he, n, hm.symm⟩

/-- the cells of a hash -/
def hcells (st : St) (rest : List Int) (used : Nat) (len : Int) : List Value :=
  st.list.map (Value.int .u32) ++ (rest.map (Value.int .u8) ++ [.int .i64 used, .int .u64 len])
/-- a hash in block b -/
structure HashIn (w : World) (b : Nat) (st : St) (rest : List Int) (used : Nat) (len : Int) : Prop where
  blk : w.heap[b]? = some (.cells (hcells st rest used len).toArray 100 (0, 0))
  rl : rest.length = 64
theorem HashIn.free {w : World} {b : Nat} {st : St} {rest : List Int} {used : Nat} {len : Int} (h : HashIn w b st rest used len) (i : Nat) : w.frozen? ⟨b, i, none⟩ = false := frozen_of_row _ _ _ _ _ h.blk
theorem HashIn.word {w : World} {b : Nat} {st : St} {rest : List Int} {used : Nat} {len : Int} (h : HashIn w b st rest used len) (i : Nat) (hi : i < 8) : w.cell? ⟨b, i, none⟩ = some (.int .u32 (st.list.getD i 0)) :=
  heap_cell h.blk (by unfold hcells; rw [List.getElem?_append_left (by simpa [St.list] using hi)]; exact getD_map _ _ _ _ (by simpa [St.list] using hi))
theorem HashIn.byte {w : World} {b : Nat} {st : St} {rest : List Int} {used : Nat} {len : Int} (h : HashIn w b st rest used len) (i : Nat) (hi : i < 64) : w.cell? ⟨b, 8 + i, none⟩ = some (.int .u8 (rest.getD i 0)) :=
  heap_cell h.blk (by
    have := h.rl
    unfold hcells; rw [List.getElem?_append_right (by simp [St.list]), List.getElem?_append_left (by simp [St.list]; omega)]
    have e : 8 + i - (st.list.map (Value.int .u32)).length = i := by simp [St.list]
    rw [e]; exact getD_map _ _ _ _ (by omega))
theorem HashIn.usedAt {w : World} {b : Nat} {st : St} {rest : List Int} {used : Nat} {len : Int} (h : HashIn w b st rest used len) : w.cell? ⟨b, 72, none⟩ = some (.int .i64 used) :=
  heap_cell h.blk (by
    have := h.rl
    unfold hcells; rw [List.getElem?_append_right (by simp [St.list]), List.getElem?_append_right (by simp [St.list]; omega)]
    have e : 72 - (st.list.map (Value.int .u32)).length - (rest.map (Value.int .u8)).length = 0 := by simp [St.list]; omega
    rw [e]; rfl)
theorem HashIn.lenAt {w : World} {b : Nat} {st : St} {rest : List Int} {used : Nat} {len : Int} (h : HashIn w b st rest used len) : w.cell? ⟨b, 73, none⟩ = some (.int .u64 len) :=
  heap_cell h.blk (by
    have := h.rl
    unfold hcells; rw [List.getElem?_append_right (by simp [St.list]), List.getElem?_append_right (by simp [St.list]; omega)]
    have e : 73 - (st.list.map (Value.int .u32)).length - (rest.map (Value.int .u8)).length = 1 := by simp [St.list]; omega
    rw [e]; rfl)
theorem HashIn.below {w w' : World} {b B : Nat} {st : St} {rest : List Int} {used : Nat} {len : Int} (h : HashIn w b st rest used len) (hb : Below B w w') (hlt : b < B) : HashIn w' b st rest used len := ⟨(hb.block b hlt).trans h.blk, h.rl⟩
theorem HashIn.lt {w : World} {b : Nat} {st : St} {rest : List Int} {used : Nat} {len : Int} (h : HashIn w b st rest used len) : b < w.heap.size := (Array.getElem?_eq_some_iff.1 h.blk).1
theorem HashIn.alloc {w : World} {b : Nat} {st : St} {rest : List Int} {used : Nat} {len : Int} (h : HashIn w b st rest used len) (o : Obj) : HashIn (w.alloc o) b st rest used len := ⟨(heap_alloc_old w o h.lt).trans h.blk, h.rl⟩
theorem HashIn.drew {w : World} {b : Nat} {st : St} {rest : List Int} {used : Nat} {len : Int} (h : HashIn w b st rest used len) : HashIn w.drew b st rest used len := ⟨h.blk, h.rl⟩
theorem HashIn.drewN {w : World} {b : Nat} {st : St} {rest : List Int} {used : Nat} {len : Int} (h : HashIn w b st rest used len) (n : Nat) : HashIn (w.drewN n) b st rest used len := ⟨h.blk, h.rl⟩
theorem HashIn.set_other {w : World} {b : Nat} {st : St} {rest : List Int} {used : Nat} {len : Int} (h : HashIn w b st rest used len) (a : Addr) (v : Value) (ha : b ≠ a.block) : HashIn (w.setCell a v) b st rest used len := ⟨(heap_setCell_other _ _ _ _ ha).trans h.blk, h.rl⟩
theorem HashIn.row_other {w : World} {b : Nat} {st : St} {rest : List Int} {used : Nat} {len : Int} (h : HashIn w b st rest used len) (g : Nat) (cs : Array Value) (ha : b ≠ g) : HashIn (w.setRow g cs) b st rest used len := ⟨(setRow_other w g b cs ha).trans h.blk, h.rl⟩
/-- what a store into the hash's block leaves -/
theorem HashIn.stored {w : World} {b : Nat} {st : St} {rest : List Int} {used : Nat} {len : Int} (h : HashIn w b st rest used len) (i : Nat) (v : Value) {st' : St} {rest' : List Int} {used' : Nat} {len' : Int}
    (hr : rest'.length = 64) (he : (hcells st rest used len).set i v = hcells st' rest' used' len') : HashIn (w.setCell ⟨b, i, none⟩ v) b st' rest' used' len' :=
  ⟨by rw [heap_setCell_same _ _ _ _ _ _ h.blk, ← he]; simp, hr⟩
theorem hcells_used (st : St) (rest : List Int) (used used' : Nat) (len : Int) (h : rest.length = 64) : (hcells st rest used len).set 72 (.int .i64 used') = hcells st rest used' len := by
  unfold hcells
  rw [List.set_append_right _ _ (by simp [St.list]), List.set_append_right _ _ (by simp [St.list]; omega)]
  have e : 72 - (st.list.map (Value.int .u32)).length - (rest.map (Value.int .u8)).length = 0 := by simp [St.list]; omega
  rw [e]; rfl
theorem hcells_len (st : St) (rest : List Int) (used : Nat) (len len' : Int) (h : rest.length = 64) : (hcells st rest used len).set 73 (.int .u64 len') = hcells st rest used len' := by
  unfold hcells
  rw [List.set_append_right _ _ (by simp [St.list]), List.set_append_right _ _ (by simp [St.list]; omega)]
  have e : 73 - (st.list.map (Value.int .u32)).length - (rest.map (Value.int .u8)).length = 1 := by simp [St.list]; omega
  rw [e]; rfl
theorem hcells_byte (st : St) (rest : List Int) (used : Nat) (len : Int) (i : Nat) (v : Int) (h : rest.length = 64) (hi : i < 64) : (hcells st rest used len).set (8 + i) (.int .u8 v) = hcells st (rest.set i v) used len := by
  unfold hcells
  rw [List.set_append_right _ _ (by simp [St.list]), List.set_append_left _ _ (by simp [St.list]; omega)]
  have e : 8 + i - (st.list.map (Value.int .u32)).length = i := by simp [St.list]
  rw [e, List.map_set]

/-- the table of constants -/
def KayIn (w : World) : Prop := ∀ i, i < 64 → w.cell? ⟨2, i, none⟩ = some (.int .u32 (kay.getD i 0))
theorem KayIn.below {w w' : World} {B : Nat} (h : KayIn w) (hb : Below B w w') (hlt : 2 < B) : KayIn w' := fun i hi => (hb.cell (p := ⟨2, i, none⟩) hlt).trans (h i hi)

theorem grown_of_below {w w' : World} {row : Option Nat} (h : Below w.heap.size w w') : w.grownBy w' row := ⟨h.os, h.tape, h.output, h.size, fun k hk _ => h.block k hk⟩
theorem below_of_grown {w w' : World} {hb : Nat} (h : w.grownBy w' (some hb)) (hlt : hb ≤ w.heap.size) : Below hb w w' := ⟨h.os, h.tape, h.output, h.size, fun k hk => h.block k (by omega) (fun e => by injection e; omega)⟩
theorem grown_set {w w' : World} {b : Nat} (h : w.grownBy w' (some b)) (i : Nat) (v : Value) : w.grownBy (w'.setCell ⟨b, i, none⟩ v) (some b) :=
  ⟨h.os, h.tape, h.output, by simp [World.setCell]; exact h.size, fun k hk hne => (Below.heap_setCell _ _ _ _ (fun e => hne (by rw [e]))).trans (h.block k hk hne)⟩
theorem grown_drew {w w' : World} {row : Option Nat} (h : w.grownBy w' row) : w.grownBy w'.drew row := ⟨h.os, h.tape, h.output, h.size, h.block⟩
theorem grown_drewN {w w' : World} {row : Option Nat} (h : w.grownBy w' row) (n : Nat) : w.grownBy (w'.drewN n) row := ⟨h.os, h.tape, h.output, h.size, h.block⟩
set_option maxRecDepth 100000 in
set_option maxHeartbeats 1000000 in
theorem addBlock_grown (hb bb off cap : Nat) (p : List Int) (st : St) (rest : List Int) (used : Nat) (len : Int) (w : World) (hcap : 64 ≤ cap)
    (hc : ∀ j, j < 64 → w.cell? ⟨bb, off + j, none⟩ = some (.int .u8 (p.getD j 0))) (hbb : bb < w.heap.size)
    (hp : ∀ j, 0 ≤ p.getD j 0 ∧ p.getD j 0 < 256) (hk : KayIn w) (_hk0 : 2 < hb) (hh : HashIn w hb st rest used len) :
    Calls Tryd.prog 97 #[.pointer (some ⟨hb, 0, none⟩), .slice (some ⟨bb, off, none⟩) 64 cap] w fun e w' => e = .returned (.tuple #[]) ∧ HashIn w' hb (comp st p) rest used len ∧ w.grownBy w' (some hb) := by
  have HC := Lib.hid hc; clear hc
  have HP := Lib.hid hp; clear hp
  have HK := Lib.hid hk; clear hk
  have hlt := hh.lt
  go_enter Tryd.func97, Tryd.ntmps97
  go_wp2_with fail
  refine (schedule_any bb off cap p w hcap HC.out hbb HP.out).mono ?_
  rintro e w1 ⟨rfl, hb1⟩
  have hh1 := hh.below hb1 hlt
  have hk1 := HK.out.below hb1 (by omega)
  have hi1 : (Tryd.prog.info? 128).map (·.size) = some ((words p).map (Value.int .u32)).toArray.size := by
    rw [List.size_toArray, List.length_map, words_length]; exact Tryd.info64u
  have HI := Lib.hid hi1; clear hi1
  have hw0 : (w1.alloc (.cells (Array.replicate 64 (Value.int .u32 0)) 128)).heap[w1.heap.size]? = some (.cells (Array.replicate 64 (Value.int .u32 0)) 128 (0, 0)) := heap_alloc_new _ _
  have HW0 := Lib.hid hw0; clear hw0
  go_wp2_with (first
            | (refine wpList_store_row rfl 128 _ _ rfl w1.heap.size _ rfl rfl 128 _ HW0.out HI.out ?hold (oneCell_map _ _) ?_))
  case hold => simp [words_length]
  generalize hw2 : World.setRow _ _ _ = w2
  have hsz := hb1.size
  have hh2 : HashIn w2 hb st rest used len := by rw [← hw2]; exact (hh1.alloc _).row_other _ _ (by omega)
  have hbe2 : Below w.heap.size w w2 := by rw [← hw2]; exact below_setRow (hb1.alloc (by omega) _) (by omega) _
  have hr2 : RowIn w2 w1.heap.size 128 .u32 (words p) := by rw [← hw2]; exact setRow_heap _ _ _ _ _ _ HW0.out
  have hk2 : KayIn w2 := HK.out.below hbe2 (by omega)
  clear hw2 HW0 hh1 hk1 hb1
  generalize w1.heap.size = g at *
  have d0 : w2.cell? ⟨hb, 0, none⟩ = some (.int .u32 st.a) := hh2.word 0 (by omega)
  have d1 : w2.cell? ⟨hb, 1, none⟩ = some (.int .u32 st.b) := hh2.word 1 (by omega)
  have d2 : w2.cell? ⟨hb, 2, none⟩ = some (.int .u32 st.c) := hh2.word 2 (by omega)
  have d3 : w2.cell? ⟨hb, 3, none⟩ = some (.int .u32 st.d) := hh2.word 3 (by omega)
  have d4 : w2.cell? ⟨hb, 4, none⟩ = some (.int .u32 st.e) := hh2.word 4 (by omega)
  have d5 : w2.cell? ⟨hb, 5, none⟩ = some (.int .u32 st.f) := hh2.word 5 (by omega)
  have d6 : w2.cell? ⟨hb, 6, none⟩ = some (.int .u32 st.g) := hh2.word 6 (by omega)
  have d7 : w2.cell? ⟨hb, 7, none⟩ = some (.int .u32 st.h) := hh2.word 7 (by omega)
  go_quiet (fail)
  clear d0 d1 d2 d3 d4 d5 d6 d7
  generalize hw3 : w2.drewN nq = w3
  have hh3 : HashIn w3 hb st rest used len := by rw [← hw3]; exact hh2.drewN _
  have hbe3 : Below w.heap.size w w3 := by rw [← hw3]; exact below_drewN hbe2 _
  have hr3 : RowIn w3 g 128 .u32 (words p) := by rw [← hw3]; exact hr2
  have hk3 : KayIn w3 := by rw [← hw3]; exact hk2
  clear hw3 hh2 hbe2 hr2 hk2
  have HK3 := Lib.hid hk3; clear hk3
  go_wp2_with fail
  go_loopw [6, 7, 8, 9, 10, 11, 12, 13, 54] (fun a b c d e f g h i wr => ∃ (k n : Nat) (s : St), k ≤ 64 ∧ i = .int .i64 k ∧ wr = w3.drewN n ∧ Hid (rnds (words p) st k = s) ∧ a = .int .u32 s.a ∧ b = .int .u32 s.b ∧ c = .int .u32 s.c ∧ d = .int .u32 s.d ∧ e = .int .u32 s.e ∧ f = .int .u32 s.f ∧ g = .int .u32 s.g ∧ h = .int .u32 s.h)
    (fun _ _ _ _ _ _ _ _ i _ => 64 - (intOf i).toNat)
  case atStart => exact ⟨0, 0, st, by omega, rfl, rfl, rfl, rfl, rfl, rfl, rfl, rfl, rfl, rfl, rfl⟩
  case round =>
    obtain ⟨k, n, ⟨sa, sb, sc, sd, se, sf, sg, sh⟩, hk, rfl, hwr, hs, rfl, rfl, rfl, rfl, rfl, rfl, rfl, rfl⟩ := hrel
    have HWR := Lib.hid hwr; clear hwr
    by_cases hlt2 : k < 64
    · have ck : wr.cell? ⟨2, k, none⟩ = some (.int .u32 (kay.getD k 0)) := by rw [HWR.out]; exact HK3.out k hlt2
      have cw : wr.cell? ⟨g, k, none⟩ = some (.int .u32 ((words p).getD k 0)) := by rw [HWR.out]; exact hr3.get k (by rw [words_length]; exact hlt2)
      have E : Hid (rnds (words p) st (k + 1) = rnd (kay.getD k 0) ((words p).getD k 0) ⟨sa, sb, sc, sd, se, sf, sg, sh⟩) := by show rnd _ _ _ = _; rw [hs.out]
      generalize kay.getD k 0 = kk at *
      generalize (words p).getD k 0 = ww at *
      clear hs
      go_wp2_with fail
      go_quiet ((first | (go_at_call 111; exact quiet_same (mix_big1 _ _)) | (go_at_call 112; exact quiet_same (choose_any _ _ _ _))))
      go_wp2_with fail
      with_reducible refine (mix_big0 _ _).mono ?_
      rintro e w' ⟨rfl, rfl⟩
      go_wp2_with fail
      with_reducible refine (majority_any _ _ _ _).mono ?_
      rintro e w' ⟨rfl, rfl⟩
      go_wp2
      go_roundw
      case rel =>
        refine ⟨k + 1, n + nq, _, by omega, by go_num, by rw [HWR.out, World.drewN_drewN], E, ?_⟩
        simp [rnd, tOne, tTwo, ad, Int.add_assoc]
      case measure => simp [intOf]; omega
    · obtain rfl : k = 64 := by omega
      have hh4 : HashIn wr hb st rest used len := by rw [HWR.out]; exact hh3.drewN _
      have hbe4 : w.grownBy wr (some hb) := by rw [HWR.out]; exact grown_drewN (grown_of_below hbe3) _
      clear HWR hr3 hh3 hbe3 HK3
      go_wp2_with fail
      have d : wr.cell? ⟨hb, 0, none⟩ = some (.int .u32 st.a) := hh4.word 0 (by omega)
      have fr := hh4.free 0
      go_region
      go_wp2_with fail
      generalize hw : World.drew _ = x0
      have hh5 : HashIn x0 hb ⟨ad st.a sa, st.b, st.c, st.d, st.e, st.f, st.g, st.h⟩ rest used len := by rw [← hw]; exact (hh4.stored 0 (.int .u32 (ad st.a sa)) (st' := ⟨ad st.a sa, st.b, st.c, st.d, st.e, st.f, st.g, st.h⟩) (rest' := rest) (used' := used) (len' := len) hh4.rl rfl).drew
      have hbe5 : w.grownBy x0 (some hb) := by rw [← hw]; exact grown_drew (grown_set hbe4 0 _)
      clear hw d fr hh4 hbe4
      have d : x0.cell? ⟨hb, 1, none⟩ = some (.int .u32 st.b) := hh5.word 1 (by omega)
      have fr := hh5.free 1
      go_region
      go_wp2_with fail
      generalize hw : World.drew _ = x1
      have hh6 : HashIn x1 hb ⟨ad st.a sa, ad st.b sb, st.c, st.d, st.e, st.f, st.g, st.h⟩ rest used len := by rw [← hw]; exact (hh5.stored 1 (.int .u32 (ad st.b sb)) (st' := ⟨ad st.a sa, ad st.b sb, st.c, st.d, st.e, st.f, st.g, st.h⟩) (rest' := rest) (used' := used) (len' := len) hh5.rl rfl).drew
      have hbe6 : w.grownBy x1 (some hb) := by rw [← hw]; exact grown_drew (grown_set hbe5 1 _)
      clear hw d fr hh5 hbe5
      have d : x1.cell? ⟨hb, 2, none⟩ = some (.int .u32 st.c) := hh6.word 2 (by omega)
      have fr := hh6.free 2
      go_region
      go_wp2_with fail
      generalize hw : World.drew _ = x2
      have hh7 : HashIn x2 hb ⟨ad st.a sa, ad st.b sb, ad st.c sc, st.d, st.e, st.f, st.g, st.h⟩ rest used len := by rw [← hw]; exact (hh6.stored 2 (.int .u32 (ad st.c sc)) (st' := ⟨ad st.a sa, ad st.b sb, ad st.c sc, st.d, st.e, st.f, st.g, st.h⟩) (rest' := rest) (used' := used) (len' := len) hh6.rl rfl).drew
      have hbe7 : w.grownBy x2 (some hb) := by rw [← hw]; exact grown_drew (grown_set hbe6 2 _)
      clear hw d fr hh6 hbe6
      have d : x2.cell? ⟨hb, 3, none⟩ = some (.int .u32 st.d) := hh7.word 3 (by omega)
      have fr := hh7.free 3
      go_region
      go_wp2_with fail
      generalize hw : World.drew _ = x3
      have hh8 : HashIn x3 hb ⟨ad st.a sa, ad st.b sb, ad st.c sc, ad st.d sd, st.e, st.f, st.g, st.h⟩ rest used len := by rw [← hw]; exact (hh7.stored 3 (.int .u32 (ad st.d sd)) (st' := ⟨ad st.a sa, ad st.b sb, ad st.c sc, ad st.d sd, st.e, st.f, st.g, st.h⟩) (rest' := rest) (used' := used) (len' := len) hh7.rl rfl).drew
      have hbe8 : w.grownBy x3 (some hb) := by rw [← hw]; exact grown_drew (grown_set hbe7 3 _)
      clear hw d fr hh7 hbe7
      have d : x3.cell? ⟨hb, 4, none⟩ = some (.int .u32 st.e) := hh8.word 4 (by omega)
      have fr := hh8.free 4
      go_region
      go_wp2_with fail
      generalize hw : World.drew _ = x4
      have hh9 : HashIn x4 hb ⟨ad st.a sa, ad st.b sb, ad st.c sc, ad st.d sd, ad st.e se, st.f, st.g, st.h⟩ rest used len := by rw [← hw]; exact (hh8.stored 4 (.int .u32 (ad st.e se)) (st' := ⟨ad st.a sa, ad st.b sb, ad st.c sc, ad st.d sd, ad st.e se, st.f, st.g, st.h⟩) (rest' := rest) (used' := used) (len' := len) hh8.rl rfl).drew
      have hbe9 : w.grownBy x4 (some hb) := by rw [← hw]; exact grown_drew (grown_set hbe8 4 _)
      clear hw d fr hh8 hbe8
      have d : x4.cell? ⟨hb, 5, none⟩ = some (.int .u32 st.f) := hh9.word 5 (by omega)
      have fr := hh9.free 5
      go_region
      go_wp2_with fail
      generalize hw : World.drew _ = x5
      have hh10 : HashIn x5 hb ⟨ad st.a sa, ad st.b sb, ad st.c sc, ad st.d sd, ad st.e se, ad st.f sf, st.g, st.h⟩ rest used len := by rw [← hw]; exact (hh9.stored 5 (.int .u32 (ad st.f sf)) (st' := ⟨ad st.a sa, ad st.b sb, ad st.c sc, ad st.d sd, ad st.e se, ad st.f sf, st.g, st.h⟩) (rest' := rest) (used' := used) (len' := len) hh9.rl rfl).drew
      have hbe10 : w.grownBy x5 (some hb) := by rw [← hw]; exact grown_drew (grown_set hbe9 5 _)
      clear hw d fr hh9 hbe9
      have d : x5.cell? ⟨hb, 6, none⟩ = some (.int .u32 st.g) := hh10.word 6 (by omega)
      have fr := hh10.free 6
      go_region
      go_wp2_with fail
      generalize hw : World.drew _ = x6
      have hh11 : HashIn x6 hb ⟨ad st.a sa, ad st.b sb, ad st.c sc, ad st.d sd, ad st.e se, ad st.f sf, ad st.g sg, st.h⟩ rest used len := by rw [← hw]; exact (hh10.stored 6 (.int .u32 (ad st.g sg)) (st' := ⟨ad st.a sa, ad st.b sb, ad st.c sc, ad st.d sd, ad st.e se, ad st.f sf, ad st.g sg, st.h⟩) (rest' := rest) (used' := used) (len' := len) hh10.rl rfl).drew
      have hbe11 : w.grownBy x6 (some hb) := by rw [← hw]; exact grown_drew (grown_set hbe10 6 _)
      clear hw d fr hh10 hbe10
      have d : x6.cell? ⟨hb, 7, none⟩ = some (.int .u32 st.h) := hh11.word 7 (by omega)
      have fr := hh11.free 7
      go_region
      go_wp2_with fail
      generalize hw : World.drew _ = x7
      have hh12 : HashIn x7 hb ⟨ad st.a sa, ad st.b sb, ad st.c sc, ad st.d sd, ad st.e se, ad st.f sf, ad st.g sg, ad st.h sh⟩ rest used len := by rw [← hw]; exact (hh11.stored 7 (.int .u32 (ad st.h sh)) (st' := ⟨ad st.a sa, ad st.b sb, ad st.c sc, ad st.d sd, ad st.e se, ad st.f sf, ad st.g sg, ad st.h sh⟩) (rest' := rest) (used' := used) (len' := len) hh11.rl rfl).drew
      have hbe12 : w.grownBy x7 (some hb) := by rw [← hw]; exact grown_drew (grown_set hbe11 7 _)
      clear hw d fr hh11 hbe11
      go_end0
      exact ⟨rfl, by unfold comp; rw [hs.out]; exact hh12, hbe12⟩
theorem addBlock_any (hb bb off cap : Nat) (p : List Int) (st : St) (rest : List Int) (used : Nat) (len : Int) (w : World) (hcap : 64 ≤ cap)
    (hc : ∀ j, j < 64 → w.cell? ⟨bb, off + j, none⟩ = some (.int .u8 (p.getD j 0))) (hbb : bb < w.heap.size)
    (hp : ∀ j, 0 ≤ p.getD j 0 ∧ p.getD j 0 < 256) (hk : KayIn w) (hk0 : 2 < hb) (hh : HashIn w hb st rest used len) :
    Calls Tryd.prog 97 #[.pointer (some ⟨hb, 0, none⟩), .slice (some ⟨bb, off, none⟩) 64 cap] w fun e w' => e = .returned (.tuple #[]) ∧ HashIn w' hb (comp st p) rest used len ∧ Below hb w w' :=
  (addBlock_grown hb bb off cap p st rest used len w hcap hc hbb hp hk hk0 hh).mono fun _ _ ⟨a, b, c⟩ => ⟨a, b, below_of_grown c (Nat.le_of_lt hh.lt)⟩
end Go.Proofs.YtmafefdchglpbaaDoor
