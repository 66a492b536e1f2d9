/-
  The walks of byPath, of the sort of entries by their paths, of slices.SortedFunc and of snapshot.Make (conditions: digests of 32 bytes, at most 200 entries).
-/
import Derived.Test.YtkookkhlgllneaaDoorMakM
import Derived.Test.YtkookkhlgllneaaDoorMakW
import Derived.Test.YtkookkhlgllneaaDoorShelfSE
import Derived.Test.YtkookkhlgllneaaDoorGb
import Derived.Test.YtkookkhlgllneaaDoorLawSnA
namespace Go.Proofs.YtkookkhlgllneaaDoor
open Go.RowKit

set_option maxRecDepth 100000 in
set_option maxHeartbeats 400000 in
theorem compareString_any (a b : ByteArray) (w : World) :
    Calls Tryd.prog 138 #[.string a, .string b] w fun e w' => e = .returned (.int .i64 (Lib.compareBytes a.data.toList b.data.toList)) ∧ w = w' := by
  go_enter Tryd.func138, Tryd.ntmps138
  go_wp2
  rw [run_callFunc_extern Tryd.func166 (by kernel_rfl) (by kernel_rfl) (by kernel_rfl) (e := Extern.BytealgCompare.compare) (by kernel_rfl), Lib.run_compareString]
  simp only [Result.andThen]
  rw [Oper.upon_value]
  go_wp2
  go_ret
  exact ⟨rfl, rfl⟩
set_option maxHeartbeats 400000 in
theorem compareStr_any (a b : ByteArray) (w : World) :
    Calls Tryd.prog 103 #[.string a, .string b] w fun e w' => e = .returned (.int .i64 (Lib.compareBytes a.data.toList b.data.toList)) ∧ w = w' := by
  go_enter Tryd.func103, Tryd.ntmps103
  go_wp2_with (go_at_call 138; refine (compareString_any _ _ _).mono ?_; rintro e w' ⟨rfl, rfl⟩)
  go_ret
  exact ⟨rfl, rfl⟩
def cmpP (x y : EV) : Int := Lib.compareBytes x.1.p.data.toList y.1.p.data.toList
theorem cmpP_lt (x y : EV) : ltOf cmpP x y = pls x.1.p y.1.p := cmpB_lt x.1.p y.1.p
theorem cmpP_swo : Sort.SWO (ltOf cmpP) where
  irrefl x := by rw [cmpP_lt]; exact pls_irrefl _
  trans x y z h1 h2 := by rw [cmpP_lt] at *; exact pls_trans h1 h2
  ntrans x y z h1 h2 := by
    rw [cmpP_lt] at *
    rw [Bool.eq_false_iff]
    intro h
    by_cases hyx : pls y.1.p x.1.p = true
    · rw [pls_trans hyx h] at h2; cases h2
    · have e := pls_tri h1 (by simpa using hyx)
      rw [e, h2] at h; cases h
instance : Inhabited EV := ⟨⟨⟨ByteArray.empty, zed⟩, D32.zed⟩⟩
def encE (x : EV) : List Value := enL x.1
theorem byPath_any (x y : En) (W : World) : Calls Tryd.prog 52 #[.agg (enL x).toArray, .agg (enL y).toArray] W fun e w' => e = .returned (.int .i64 (Lib.compareBytes x.p.data.toList y.p.data.toList)) ∧ ∃ q os', w' = Sort.grow (W.drewN q) os' := by
  have h1 : ((W.alloc (.cells (enL x).toArray 70)).alloc (.cells (enL y).toArray 70)).cell? ⟨W.heap.size, 0, none⟩ = some (.string x.p) :=
    (World.cell?_of_block (a := ⟨W.heap.size, 0, none⟩) (Below.heap_alloc _ _ _ (by simp))).trans (EnB.new W x).p
  have h2 : ((W.alloc (.cells (enL x).toArray 70)).alloc (.cells (enL y).toArray 70)).cell? ⟨W.heap.size + 1, 0, none⟩ = some (.string y.p) := by
    have := (EnB.new (W.alloc (.cells (enL x).toArray 70)) y).p
    rwa [World.size_alloc] at this
  go_enter Tryd.func52, Tryd.ntmps52
  go_wp2_with (go_at_call 103; refine (compareStr_any _ _ _).mono ?_; rintro e w' ⟨rfl, rfl⟩)
  go_ret
  exact ⟨rfl, 0, _, by rw [Sort.alloc_eq_grow, Sort.alloc_eq_grow, Sort.grow_grow]; rfl⟩
/-- the entries with what is known of their digests -/
def toV (l : List En) (h : ∀ x ∈ l, OkE x) : List EV := l.pmap (fun x hx => ⟨x, hx⟩) h
theorem toV_length (l : List En) (h : ∀ x ∈ l, OkE x) : (toV l h).length = l.length := by simp [toV]
theorem unV_toV (l : List En) (h : ∀ x ∈ l, OkE x) : unV (toV l h) = l := by
  unfold unV toV
  rw [List.map_pmap]
  exact (List.pmap_eq_map ..).trans (List.map_id' l)
theorem getV (d : Array EV) (i : Nat) (hi : i < d.size) : (unV d.toList)[i]? = some d[i]!.1 := by
  unfold unV
  rw [List.getElem?_map, Array.getElem?_toList, Array.getElem?_eq_getElem hi, getElem!_pos d i hi]; rfl
theorem holdsV {w : World} {g n cap : Nat} {t : TypeId} {cur : Array Value} {d : Array EV} (h : EnsIn w w.heap.size (some ⟨g, 0, none⟩) n cap (unV d.toList)) (hb : w.heap[g]? = some (.cells cur t (0, 0))) : Sort.HoldsK encE 33 w g 0 d := by
  intro t ht
  rw [Sort.size_flatK] at ht
  refine ⟨?_, by simp [World.frozen?, hb]⟩
  rw [Sort.get_flatK _ _ _ _ ht]
  have hi : t / 33 < d.size := by omega
  have hx := getV d (t / 33) hi
  obtain ⟨b, off, e, hlt, hc, hr⟩ := h.cells (by have := h.len; rw [unV_length] at this; simp at this; omega)
  injection e with e; injection e with e1 e2; subst e1 e2
  have h33 : (encE d[t / 33]!).length = 33 := enL_length d[t / 33]!.2
  have hj : t % 33 < (enL d[t / 33]!.1).length := by have : (enL d[t / 33]!.1).length = 33 := h33; omega
  have := hr (t / 33) _ hx (t % 33) _ (List.getElem?_eq_getElem hj)
  have e3 : 0 + t / 33 * 33 + t % 33 = 0 + t := by omega
  have this' : w.cell? ⟨g, 0 + t / 33 * 33 + t % 33, none⟩ = some ((enL d[t / 33]!.1)[t % 33]) := this
  rw [e3] at this'
  rw [this']
  exact congrArg some (getElem!_pos (enL d[t / 33]!.1) (t % 33) hj).symm
theorem ensV {w : World} {g n cap : Nat} {d : Array EV} (h : Sort.HoldsK encE 33 w g 0 d) (hn : d.size = n) (hc : n ≤ cap) (hg : g < w.heap.size) : EnsIn w w.heap.size (some ⟨g, 0, none⟩) n cap (unV d.toList) := by
  refine ⟨by rw [unV_length]; simpa using hn, unV_ok _, fun _ => ⟨g, 0, rfl, hg, hc, ?_⟩⟩
  intro i x hx j v hv
  have hi : i < d.size := by have := (List.getElem?_eq_some_iff.1 hx).1; rw [unV_length] at this; simpa using this
  have e : x = d[i]!.1 := Option.some.inj (hx.symm.trans (getV d i hi))
  subst e
  obtain ⟨hj, hv⟩ := List.getElem?_eq_some_iff.1 hv
  have h33 : (enL d[i]!.1).length = 33 := enL_length d[i]!.2
  have := (Sort.HoldsK.cell h hi (show j < 33 by omega)).1
  show w.cell? ⟨g, 0 + i * 33 + j, none⟩ = some v
  rw [this, ← hv]
  exact congrArg some (getElem!_pos (enL d[i]!.1) j hj)
theorem ascV {d : Array EV} (h : Sort.SortedIn (ltOf cmpP) 0 d.size d) : Asc (unV d.toList) := by
  unfold Asc
  rw [List.pairwise_iff_getElem]
  intro i j hi hj hij
  rw [unV_length] at hi hj
  have hi' : i < d.size := by simpa using hi
  have hj' : j < d.size := by simpa using hj
  have := h i j (Nat.zero_le _) hij hj'
  rw [cmpP_lt] at this
  have e1 := getV d i hi'; have e2 := getV d j hj'
  rw [List.getElem?_eq_getElem (by rw [unV_length]; exact hi)] at e1
  rw [List.getElem?_eq_getElem (by rw [unV_length]; exact hj)] at e2
  rw [Option.some.inj e1, Option.some.inj e2]
  exact this
theorem permV {d d' : Array EV} (h : Sort.PermIn 0 d.size d d') : (unV d'.toList).Perm (unV d.toList) := by
  obtain ⟨hs, _, hp⟩ := h
  rw [← hs] at hp
  have e1 : d'.extract 0 d'.size = d' := by simp
  rw [e1, hs] at hp
  have e2 : d.extract 0 d.size = d := by simp
  rw [e2] at hp
  exact hp.map _
theorem below_sortV {base g m : Nat} {w : World} {d : Array EV} {os : Array Obj} (hg : base ≤ g) (hgw : g < w.heap.size) : Below base w (sortWorldK encE 33 w g 0 m d os) := by
  unfold sortWorldK Sort.putRowK
  refine ⟨rfl, rfl, rfl, by simp, fun k hk => ?_⟩
  by_cases hkw : k < w.heap.size
  · rw [Sort.heap_grow_old _ _ (by simpa using hkw)]
    have : g ≠ k := by omega
    simp [Sort.putRow, Sort.mapBlock, Sort.ahead, Array.getElem?_modify, this]
  · exact absurd hk (by omega)
end Go.Proofs.YtkookkhlgllneaaDoor
