/-
  Envelopes: what Join answers (plain); the reference's find with the place that it finds.
-/
import Derived.Test.YtcligodahogpkaaGreatDoorZip
import Derived.Test.YtcligodahogpkaaGreatDoorEnvRm
set_option maxRecDepth 100000
set_option maxHeartbeats 8000000
namespace Go.Proofs.YtcligodahogpkaaGreatDoor
open Go.RowKit Go.Proofs.YtcligodahogpkaaGreatDoor.One
def FndI (L : List Pg) (y : List Int) (i : Int) : Prop := (∃ k : Nat, i = (k : Int) ∧ ∃ z, L[k]? = some z ∧ idP z = y) ∨ (i = -1 ∧ ∀ z ∈ L, idP z ≠ y)
def jnS (d : List Int) (L : List Pg) (x : Pg) : List Pg :=
 if pI L x = false then nL L x else L.map fun z => if idP z = idP x ∧ nI d z = false ∧ nI d x = true then x else z
def jnL (d : List Int) (L M : List Pg) : List Pg := M.foldl (jnS d) L
theorem LS {L : List Pg} {x : Pg} (h : ∀ z ∈ L, idP z ≠ idP x) : pI L x = false := DH h
theorem xK {L : List Pg} {x z : Pg} (hz : z ∈ L) (e : idP z = idP x) : pI L x = true := xL hz e
theorem AY {L : List Pg} (hs : nJ L) {i j : Nat} {x y : Pg} (hx : L[i]? = some x) (hy : L[j]? = some y) (hij : i ≠ j) : idP x ≠ idP y := by
 rcases Nat.lt_or_gt_of_ne hij with h | h
 ·exact xR (lT hs h hx hy)
 ·exact fun e => xR (lT hs h hy hx) e.symm
theorem CQ {d : List Int} {L : List Pg} {x z : Pg} {k : Nat} (hs : nJ L) (hz : L[k]? = some z) (he : idP z = idP x) (h1 : nI d z = false) (h2 : nI d x = true) : jnS d L x = L.set k x := by
 unfold jnS
 rw [if_neg (by rw [xK (List.mem_of_getElem? hz) he]; simp)]
 refine List.ext_getElem? fun j => ?_
 rw [List.getElem?_map, List.getElem?_set]
 have hk := (List.getElem?_eq_some_iff.1 hz).1
 by_cases hj : k = j
 ·subst hj
  rw [if_pos rfl, hz]; simp [he, h1, h2, hk]
 ·rw [if_neg hj]
  cases hy : L[j]? with
  | none => rfl
  | some y =>
    have := AY hs hz hy hj
    simp only [Option.map_some, he] at this ⊢
    rw [if_neg (fun h => this h.1.symm)]
theorem rE {d : List Int} {L : List Pg} {x z : Pg} {k : Nat} (hs : nJ L) (hz : L[k]? = some z) (he : idP z = idP x) (h : nI d z = true ∨ nI d x = false) : jnS d L x = L := by
 unfold jnS
 rw [if_neg (by rw [xK (List.mem_of_getElem? hz) he]; simp)]
 refine (List.map_congr_left (g := id) fun y hy => ?_).trans (List.map_id _)
 obtain ⟨j, hj⟩ := List.mem_iff_getElem?.1 hy
 by_cases hkj : k = j
 ·subst hkj; rw [hz] at hj; injection hj with hj; subst hj
  rw [if_neg (fun h' => by rcases h with h | h <;> simp [h] at h')]; rfl
 ·have := AY hs hz hj hkj
  rw [if_neg (fun h' => this (he.trans h'.1.symm))]; rfl
theorem CR {d : List Int} {L : List Pg} {x : Pg} (h : pI L x = false) : jnS d L x = nL L x := by unfold jnS; rw [if_pos h]
theorem LI {d : List Int} {L : List Pg} {x : Pg} : (L.map fun z => if idP z = idP x ∧ nI d z = false ∧ nI d x = true then x else z).map idP = L.map idP := by
 rw [List.map_map]
 refine List.map_congr_left fun z _ => ?_
 simp only [Function.comp_apply]
 split
 ·rename_i h; exact h.1.symm
 ·rfl
theorem CP {d : List Int} {L : List Pg} {x : Pg} (hs : nJ L) : nJ (jnS d L x) := by
 unfold jnS
 split
 ·rename_i h; exact lA hs h
 ·exact wP LI.symm hs
theorem LO {d : List Int} {L : List Pg} {x : Pg} : L.length ≤ (jnS d L x).length ∧ (jnS d L x).length ≤ L.length + 1 := by
 unfold jnS
 split
 ·rw [lD]; omega
 ·rw [List.length_map]; omega
theorem LN {d : List Int} {L : List Pg} {x z : Pg} (h : z ∈ jnS d L x) : z ∈ L ∨ z = x := by
 unfold jnS at h
 split at h
 ·exact lC h
 ·obtain ⟨y, hy, rfl⟩ := List.mem_map.1 h
  split
  ·exact .inr rfl
  ·exact .inl hy
theorem iP {d : List Int} {L M : List Pg} {x : Pg} : jnL d L (M ++ [x]) = jnS d (jnL d L M) x := by unfold jnL; rw [List.foldl_append]; rfl
def jnE (t t' : ByteArray) (b b' : List UInt8) (L M : List Pg) : Int :=
 if fL t b L = false ∨ fL t' b' M = false then 1 else if t ≠ t' ∨ b ≠ b' then 9 else if 8 < (jnL (eI t b) L M).length then 3 else 0
structure JnV where
 E : Int
 t : ByteArray
 b : List UInt8
 L : List Pg
def vQ (E : Int) : JnV := ⟨E, ⟨#[]⟩, [], []⟩
def jnV (t t' : ByteArray) (b b' : List UInt8) (L M : List Pg) : JnV :=
 if jnE t t' b b' L M = 0 then ⟨0, t, b, jnL (eI t b) L M⟩ else vQ (jnE t t' b b' L M)
def JnR (V : JnV) (w : World) (e : Ending) (w' : World) : Prop :=
 ∃ (sp : Option Addr) (n c : Nat) (sq : Option Addr) (m d : Nat) (l : List Sg), e = .returned (.tuple #[.agg (enA V.t (.slice sp n c) (.slice sq m d)), .int .i64 V.E]) ∧ BSrc w' w'.heap.size sp n c V.b ∧ SgsIn w' w'.heap.size sq m d l ∧ l.map pg = V.L ∧ Below w.heap.size w w'
theorem JnR.err {w w' : World} {E : Int} (hb : Below w.heap.size w w') : JnR (vQ E) w (.returned (.tuple #[.agg zEn, .int .i64 E])) w' := ⟨none, 0, 0, none, 0, 0, [], rfl, ⟨rfl, fun h => by omega⟩, SgsIn.nil _ _, rfl, hb⟩
theorem yY (sp : Option Addr) (n cap : Nat) (l : List Sg) (y : List Int) (w : World) (hl : SgsIn w w.heap.size sp n cap l) (hy : D32 y) (hn : n ≤ 1000) :
 Calls Tryz.prog 29 #[.slice sp n cap, .agg (dv y)] w fun e w' => ∃ i : Int, e = .returned (.int .i64 i) ∧ FndI (l.map pg) y i ∧ Below w.heap.size w w' := by
 have HL := zh hl; have HY := zh hy
 have HB := zh ((Below.refl w.heap.size w).alloc (Nat.le_refl _) (.cells (dv y) 43))
 have hr : (w.alloc (.cells (dv y) 43)).rangeAt w.heap.size 0 (y.map (Value.int .u8)) := dS (pre := []) (post := []) (heap_alloc_new w _) (by simp) rfl
 have HID := zh (tO hy)
 clear hl hy
 go_enter Tryz.func29, Tryz.ntmps29
 go_wp2_with fail
 generalize hw0 : World.alloc w _ = w0 at HB hr
 have HYR := zh hr
 obtain ⟨B, hBe⟩ : ∃ B, B = w0.heap.size := ⟨_, rfl⟩
 have HLT : Hid (w.heap.size < B) := by show _ < _; rw [hBe, ← hw0]; simp
 clear hr hw0
 go_loopw [5] (fun i wr => ∃ k : Nat, k ≤ n ∧ i = .int .i64 k ∧ Hid (∀ z ∈ (l.map pg).take k, idP z ≠ y) ∧ Hid (Below B w0 wr)) (fun i _ => n - (intOf i).toNat)
 case atStart => exact ⟨0, Nat.zero_le _, rfl, fun z hz => (by simp at hz), Below.refl _ _⟩
 case round =>
  obtain ⟨k, hk, rfl, HT, HBR⟩ := hrel
  have HBW := zh (HB.out.trans (HBR.out.mono (Nat.le_of_lt HLT.out)))
  have hszr : B ≤ wr.heap.size := by have := HBR.out.size; omega
  by_cases hlt : k < n
  ·have hd : decide ((k : Int) < (n : Int)) = true := by simp; omega
   obtain ⟨bq, off, rfl, hbB, hcap, hr1⟩ := HL.out.cells (by omega)
   have hkl : k < l.length := by rw [HL.out.len]; exact hlt
   obtain ⟨x, hx⟩ : ∃ x, l[k]? = some x := ⟨l[k], List.getElem?_eq_getElem hkl⟩
   have HOX := zh (HL.out.ok x (List.mem_of_getElem? hx))
   have HR := zh (aA (hr1 k x hx) HBW.out hbB)
   have PQ : Hid (wr.rangeAt w.heap.size 0 (y.map (Value.int .u8))) := aA HYR.out HBR.out HLT.out
   have HIP := zh (eX HOX.out)
   have HXX : Hid ((l.map pg)[k]? = some (pg x)) := by show _ = _; rw [List.getElem?_map, hx]; rfl
   have he : ∀ w', (binOp .eql 43 (.agg (dv (idP (pg x)))) (.agg (y.map (Value.int .u8)).toArray)).run Tryz.prog w' = .ok (.bool (decide (idP (pg x) = y))) w' := eqlD (idP (pg x)) y (gH (pg x)).1 HY.out.1
   obtain ⟨c, hc⟩ : ∃ c, decide (idP (pg x) = y) = c := ⟨_, rfl⟩
   rw [hc] at he
   have HC := zh hc
   have HCI : Hid (∀ w', Calls Tryz.prog 30 #[.agg (sgP x).toArray] w' fun e w'' => e = .returned (.agg (dv (idP (pg x)))) ∧ Below w'.heap.size w' w'') := fun w' => jH x.h x.r w' HOX.out
   generalize hu : idP (pg x) = u at *
   have HU := zh hu
   clear hu
   have p1 : (0 : Int) ≤ (k : Int) := by omega
   have p2 : (k : Int) < (n : Int) := by omega
   have q1 : IntKind.i64.wrap (k : Int) = (k : Int) := IntWalk.i64_in _ (by omega)
   have HBB : Hid (bq < B) := Nat.lt_trans hbB HLT.out
   have jQ : Hid (Below B wr wr) := Below.refl _ _
   have hBk : B ≤ wr.heap.size := hszr
   clear hx hr1 hc hkl hbB HYR
   have HYR := PQ
   clear PQ
   go_wp2_with fail
   refine wp_region_held_drew (S := fun w' => Below B wr w') (by kernel_rfl) jQ.out.drew (fun hHeld => ?_)
   refine zv 0 rfl ?_
   refine zv 1 rfl ?_
   refine zv 2 rfl ?_
   refine zv 3 rfl ?_
   refine' zk 4 rfl (v := _) (yieldsIf_load_mid (by rfl) _ _ rfl _ _ rfl _ _ ?hS4n5 Tryz.underlying56 rfl HIP.out) ?rest4n5
   case hS4n5 =>
    intro w' hSw
    exact kX (aA HR.out hSw HBB.out)
   try simp only [Act.put, zA, zB, zC, zD, zE, zF]
   refine' zk 6 rfl (v := _) (yieldsIf_load_mid (by rfl) _ _ rfl _ _ rfl _ _ ?hS6n6 Tryz.underlying43 rfl HID.out) ?rest6n6
   case hS6n6 =>
    intro w' hSw
    exact aA HYR.out hSw HLT.out
   try simp only [Act.put, zA, zB, zC, zD, zE, zF]
   refine zr 5 rfl (fun K hK => ?_)
   go_simp
   with_reducible refine (HCI.out _).mono ?_
   rintro e v1 ⟨rfl, hb⟩
   have eN : Hid (Below B wr v1) := (jQ.out.drew).trans (hb.mono (by have := ((jQ.out.drew)).size; have := hBk; omega))
   clear hb
   go_wp2_with fail
   refine hK.out _ _ eN.out fun _ => ?_; clear hK K
   try simp only [Act.put, zA, zB, zC, zD, zE, zF]
   refine zv 7 rfl ?_
   refine zd ?_ _
   clear hHeld he
   have JW : Hid (Below B w0 v1) := HBR.out.trans eN.out
   cases c
   ·go_wp2_with fail
    go_roundw
    case rel =>
     refine ⟨k + 1, by omega, by go_num, ?_, JW⟩
     rw [List.take_add_one, HXX.out]
     intro z hz
     rcases List.mem_append.1 hz with hz | hz
     ·exact HT.out z hz
     ·rw [List.mem_singleton.1 hz, HU.out]; exact of_decide_eq_false HC.out
    case measure => simp [intOf]; omega
   ·go_wp2_with fail
    go_ret
    exact ⟨(k : Int), rfl, .inl ⟨k, rfl, pg x, HXX.out, HU.out.trans (of_decide_eq_true HC.out)⟩, HB.out.trans (JW.out.mono (Nat.le_of_lt HLT.out))⟩
  ·obtain rfl : k = n := by omega
   have hd : decide ((k : Int) < (k : Int)) = false := by simp
   have HTK : Hid ((l.map pg).take k = l.map pg) := by show _ = _; rw [List.take_of_length_le]; rw [List.length_map, HL.out.len]; omega
   rw [HTK.out] at HT
   go_wp2_with fail
   go_ret
   exact ⟨-1, rfl, .inr ⟨rfl, HT.out⟩, HBW.out⟩
end Go.Proofs.YtcligodahogpkaaGreatDoor
