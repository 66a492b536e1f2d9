/-
  The walks of slices.Values' iterator, of slices.AppendSeq, Collect and Values at entries (conditions: digests of 32 bytes, at most 400000 entries).
-/
import Derived.Test.YtkookkhlgllneaaDoorGc
import Derived.RangeFuncFrom
import Derived.Shelf.Abstract
namespace Go.Proofs.YtkookkhlgllneaaDoor
open Go.RowKit Go.Shelf
attribute [local go_sem] Oper.semAt_some

/-- what the iterator reads -/
structure VaIn (w : World) (B ba : Nat) (sp : Option Addr) (n cap : Nat) (l : List En) : Prop where
  pa : w.cell? ⟨ba, 0, none⟩ = some (.slice sp n cap)
  la : EnsIn w B sp n cap l
theorem EnsIn.keep {w w' : World} {B : Nat} {sp : Option Addr} {n cap : Nat} {l : List En} (h : EnsIn w B sp n cap l) (hk : ∀ k, k < B → w'.heap[k]? = w.heap[k]?) : EnsIn w' B sp n cap l :=
  ⟨h.len, h.ok, fun hn => by
    obtain ⟨b, off, e, hlt, hc, hr⟩ := h.cells hn
    exact ⟨b, off, e, hlt, hc, fun i x hi j v hv => (World.cell?_of_block (a := ⟨b, off + i * 33 + j, none⟩) (hk b hlt)).trans (hr i x hi j v hv)⟩⟩
theorem VaIn.keep {w w' : World} {B ba : Nat} {sp : Option Addr} {n cap : Nat} {l : List En} (h : VaIn w B ba sp n cap l) (hk : Keep3 B ba ba w w') : VaIn w' B ba sp n cap l :=
  ⟨(World.cell?_of_block (a := ⟨ba, 0, none⟩) hk.2.2.1).trans h.pa, h.la.keep hk.2.1⟩
/-- an entry whose digest is a digest -/
abbrev EV := { x : En // OkE x }
def encV (x : EV) : Array Value := #[.agg (enL x.1).toArray]
def unV (l : List EV) : List En := l.map (·.1)
theorem unV_snoc (l : List EV) (x : EV) : unV (l ++ [x]) = unV l ++ [x.1] := by simp [unV]
theorem unV_length (l : List EV) : (unV l).length = l.length := by simp [unV]
theorem unV_ok (l : List EV) : ∀ x ∈ unV l, OkE x := by
  intro x hx
  obtain ⟨q, _, rfl⟩ := List.mem_map.1 hx
  exact q.2
theorem vals_go {a : List En} {pre : List EV} {i : Nat} {x : En} (h : a = unV pre ++ a.drop i) (hx : a[i]? = some x) (ok : OkE x) : a = unV (pre ++ [(⟨x, ok⟩ : EV)]) ++ a.drop (i + 1) := by
  have hl := (List.getElem?_eq_some_iff.1 hx).1
  have e : a.drop i = x :: a.drop (i + 1) := by
    rw [List.drop_eq_getElem_cons hl]; congr 1; exact (List.getElem?_eq_some_iff.1 hx).2
  rw [e] at h
  rw [unV_snoc, List.append_assoc]
  exact h
set_option maxRecDepth 100000 in
set_option maxHeartbeats 4000000 in
theorem vals_in (n l B ba : Nat) (sp : Option Addr) (na ca : Nat) (a : List En) (hn : 1 ≤ n) (hna : na ≤ 1000000) (J Jx : List EV → World → Prop) (W0 : World)
    (hB : B ≤ W0.heap.size) (hba : ba < W0.heap.size)
    (hJ : ∀ pre W W', J pre W → Below W.heap.size W W' → J pre W')
    (hY : ∀ pre x W, J pre W → pre.length < a.length → YieldAt Fence.wide (n - 1) Tryd.prog l (encV x) W fun e W' => (e = .returned (.bool true) ∧ J (pre ++ [x]) W' ∧ Keep3 B ba ba W W') ∨ (e = .returned (.bool false) ∧ Jx (pre ++ [x]) W'))
    (hc : VaIn W0 B ba sp na ca a) (h0 : J [] W0) :
    CallsIn Fence.wide n Tryd.prog 102 #[.func (.yield l) #[] #[], .pointer (some ⟨ba, 0, none⟩)] W0 fun e W' =>
      (∃ v, e = .returned v) ∧ ((∃ xs, unV xs = a ∧ J xs W') ∨ (∃ pre, unV pre <+: a ∧ Jx pre W')) := by
  have HJ := Lib.hid hJ; have HY := Lib.hid hY
  have hpa := hc.pa
  have HC0 := Lib.hid hc
  clear hJ hY hc
  refine callsIn_of_wp Tryd.func102 rfl trivial ?_ rfl
  simp only [Tryd.ntmps102, List.size_toArray, List.length_cons, List.length_nil, Nat.reduceAdd, Nat.reduceSub, Array.replicate_succ, Array.replicate_zero, List.push_toArray, List.append_toArray, List.nil_append, List.cons_append]
  gi_wp2_with fail
  gi_loopw [7] (fun u wr => ∃ (i : Nat) (pre : List EV), i ≤ na ∧ u = .int .i64 i ∧ Hid (a = unV pre ++ a.drop i) ∧ Hid (pre.length = i) ∧ Hid (J pre wr) ∧ Hid (VaIn wr B ba sp na ca a) ∧ W0.heap.size ≤ wr.heap.size) (fun u _ => na - (intOf u).toNat)
  case atStart => exact ⟨0, [], Nat.zero_le _, rfl, rfl, rfl, h0, HC0.out, Nat.le_refl _⟩
  case round =>
    clear h0 hpa HC0
    obtain ⟨i, pre, hi, rfl, HS, HPL, HJr, HC, hsz⟩ := hrel
    have hB' : B ≤ wr.heap.size := by omega
    have hba' : ba < wr.heap.size := by omega
    by_cases hia : i < na
    · have hd1 : decide ((i : Int) < (na : Int)) = true := by simp; omega
      have p1 : (0 : Int) ≤ (i : Int) := by omega
      have p2 : (i : Int) < (na : Int) := by omega
      obtain ⟨g1, o1, rfl, hg1, -, hr⟩ := HC.out.la.cells (by omega)
      obtain ⟨x, hx⟩ : ∃ x, a[i]? = some x := ⟨a[i]'(by have := HC.out.la.len; omega), List.getElem?_eq_getElem _⟩
      have hok := HC.out.la.ok x (List.mem_of_getElem? hx)
      have HR := Lib.hid (hr i x hx)
      have HX := Lib.hid hx
      have HI := Lib.hid (info_e hok)
      have HIr : Hid ((Tryd.prog.info? 70).map (·.size) = some (enL x).toArray.size) := by show _ = _; rw [List.size_toArray]; exact HI.out
      have HIs : Hid (33 = (enL x).toArray.size) := by show _ = _; rw [List.size_toArray, enL_length hok]
      have HOK := Lib.hid hok
      clear hr hx hok
      gi_wp2_with (first
        | (refine wpListIn_load_midS rfl 70 _ rfl g1 (o1 + i * 33) rfl _ _ HR.out Tryd.underlying70 rfl HI.out ?_)
        | (refine wpListIn_store_rowS rfl 70 _ _ rfl wr.heap.size _ rfl rfl 70 _ (heap_alloc_new wr _) HIr.out (by simpa using HIs.out) (Array.all_eq_true_iff_forall_mem.2 (by simpa using enL_one x)) ?_; rw [setRow_new]; generalize hw2 : World.alloc wr _ = w2; have he2 : EnB w2 wr.heap.size x := (by rw [← hw2]; exact heap_alloc_new _ _); have hb2 : Below wr.heap.size wr w2 := (by rw [← hw2]; exact (Below.refl _ _).alloc (Nat.le_refl _) _); have hz2 : wr.heap.size < w2.heap.size := (by rw [← hw2]; simp); have HE2 := Lib.hid he2; have HB2 := Lib.hid hb2; clear hw2 he2 hb2; have HQ := Lib.hid (vals_go HS.out HX.out HOK.out); obtain ⟨fn, tmps, assign, body, hy, hR⟩ := HY.out pre ⟨x, HOK.out⟩ w2 (HJ.out pre wr w2 HJr.out HB2.out) (by have h1 := HPL.out; have h2 := HC.out.la.len; omega); simp only [encV] at hy)
        | (refine wpListIn_load_rowS rfl 70 _ rfl wr.heap.size rfl _ _ _ _ HE2.out Tryd.underlying70 rfl HIr.out ?_))
      refine hR.mono ?_
      clear hR hy
      rintro e W6 (⟨rfl, hJ6, hk6⟩ | ⟨rfl, hJx6⟩)
      · have HJ6 := Lib.hid hJ6
        have HC6 := Lib.hid ((HC.out.keep (Keep3.of_below HB2.out hB' hba' hba')).keep hk6)
        have hz6 := hk6.1
        clear hJ6 hk6
        gi_wp2
        go_roundw
        case rel => exact ⟨i + 1, pre ++ [⟨x, HOK.out⟩], by omega, by first | rfl | go_num, HQ, by show _ = _; rw [List.length_append, HPL.out]; rfl, HJ6, HC6, by omega⟩
        case measure => simp [intOf]; omega
      · have HJx6 := Lib.hid hJx6
        clear hJx6
        gi_wp2
        refine bodyPost_ret (results_none rfl _ _ _) rfl ?_
        exact ⟨⟨_, rfl⟩, .inr ⟨pre ++ [⟨x, HOK.out⟩], ⟨_, HQ.out.symm⟩, HJx6.out⟩⟩
    · obtain rfl : i = na := by omega
      have hd1 : decide ((i : Int) < (i : Int)) = false := by simp
      have HE : Hid (unV pre = a) := by
        show _ = _
        have hda : a.drop i = [] := List.drop_eq_nil_of_le (by have := HC.out.la.len; omega)
        have h := HS.out
        rw [hda, List.append_nil] at h
        exact h.symm
      gi_wp2_with fail
      go_end0
      exact ⟨⟨_, rfl⟩, .inl ⟨pre, HE.out, HJr.out⟩⟩
theorem vals_stops (n : Nat) (hn : 1 ≤ n) (B ba : Nat) (sp : Option Addr) (na ca : Nat) (a : List En) (hna : na ≤ 1000000) (w : World)
    (hB : B ≤ w.heap.size) (hba : ba < w.heap.size) (hc : VaIn w B ba sp na ca a) :
    SeqStopsK Fence.wide n Tryd.prog 102 #[.pointer (some ⟨ba, 0, none⟩)] encV (Keep3 B ba ba) (fun xs => unV xs = a) (fun pre => unV pre <+: a) a.length w := by
  intro l J Jx W hW hJ hJx hY h0
  have hz := hW.size
  exact vals_in n l B ba sp na ca a hn hna J Jx W (by omega) (by omega)
    (fun pre X Y hj hb => hJ pre X Y none hj ⟨hb.os, hb.tape, hb.output, hb.size, fun k hk _ => hb.block k hk⟩ (fun r e => by cases e)) hY (hc.keep (Keep3.of_below hW hB hba hba)) h0
end Go.Proofs.YtkookkhlgllneaaDoor
