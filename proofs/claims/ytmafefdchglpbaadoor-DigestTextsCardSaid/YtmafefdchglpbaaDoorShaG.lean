/-
  A law for the built-in clear on a part of a row of bytes (conditions: the part lies in a row that is known whole), and the walk of (*digest.hash).write as one statement.
-/
import Derived.Test.YtmafefdchglpbaaDoorShaF
namespace Go.Proofs.YtmafefdchglpbaaDoor
open Go.RowKit

theorem write_any (hb : Nat) (sp : Option Addr) (n cap : Nat) (b l : List Int) (st : St) (rest : List Int) (used : Nat) (len : Int) (w : World) (hh : HashIn w hb st rest used len) (ha : Has l st rest used len)
    (hs : Src w hb sp n cap b) (hk : KayIn w) (hk0 : 2 < hb) (hbd : l.length + n ≤ 1099511627776) :
    Calls Tryd.prog 80 #[.pointer (some ⟨hb, 0, none⟩), .slice sp n cap] w (WriteRes hb w (l ++ b)) := by
  obtain rfl := ha.hlen
  have hu := ha.hused
  by_cases h0 : used = 0
  · subst h0; exact write_zero hb sp n cap b l st rest w hh ha hs hk hk0 hbd
  · by_cases h1 : used + n < 64
    · exact write_small hb sp n cap b l st rest used w hh ha hs hbd (by omega) h1
    · exact write_first hb sp n cap b l st rest used w hh ha hs hk hk0 hbd (by omega) (by omega) (by omega)

theorem run_clear_row {P : Program} (w : World) (dT ty elem : TypeId) (hu : P.underlying dT = some (.slice elem)) (hz : ∀ w, (zeroValue elem).run P w = .ok (.int .u8 0) w) (g off n c : Nat) (hn : 0 < n) (cur : List Value) (t : TypeId)
    (hg : w.heap[g]? = some (.cells cur.toArray t (0, 0))) (hfit : off + n ≤ cur.length) :
    (Builtin.clear_ #[dT] ty #[.slice (some ⟨g, off, none⟩) n c]).run P w = .ok (.tuple #[]) (w.setRow g (splice cur off (List.replicate n (.int .u8 0))).toArray) := by
  have hzc : (Builtin.zeroCells (Value.int .u8 0).cells n).toList = List.replicate n (.int .u8 0) := by
    simp [Builtin.zeroCells, Value.cells]
    apply List.ext_getElem
    · simp
    · intro i h1 h2
      simp [Nat.mod_one]
  have hst := run_storeCells_at P g off t (List.replicate n (.int .u8 0)) 0 cur.toArray w hg (by simpa using hfit) (by intro v hv'; rw [List.eq_of_mem_replicate hv']; rfl)
  obtain ⟨m, rfl⟩ : ∃ m, n = m + 1 := ⟨n - 1, by omega⟩
  simp [Builtin.clear_, run_underlying hu, hz, hzc, hst, splice]

theorem run_clear_none {P : Program} (w : World) (dT ty elem : TypeId) (hu : P.underlying dT = some (.slice elem)) (a : Option Addr) (c : Nat) :
    (Builtin.clear_ #[dT] ty #[.slice a 0 c]).run P w = .ok (.tuple #[]) w := by
  cases a <;> simp [Builtin.clear_, run_underlying hu]

theorem grown_row {w0 w : World} {g : Nat} (h : w0.grownBy w (some g)) (cs : Array Value) : w0.grownBy (w.setRow g cs) (some g) :=
  ⟨h.os, h.tape, h.output, by simp; exact h.size, fun k hk hne => (setRow_other w g k cs (fun e => hne (by rw [e]))).trans (h.block k hk hne)⟩
theorem RowIn.grown {w w' : World} {b g : Nat} {t : TypeId} {k : IntKind} {L : List Int} (h : RowIn w b t k L) (hg : w.grownBy w' (some g)) (hne : b ≠ g) : RowIn w' b t k L := by
  unfold RowIn; rw [hg.block b h.lt (fun e => hne (by injection e))]; exact h
theorem step_clear {P : Program} {ops : Array Oper} {o : Oper} {a : Act} {w : World} {K : Act → World → Prop} {Q : Exit → Act → World → Prop} {E : Prop} (hgd : o.guard = none) (d : Operand) (dT : TypeId)
    (ho : o.op = .call { callee := .builtin .clear, args := #[d], argTypes := #[dT] }) (elem : TypeId) (hu : P.underlying dT = some (.slice elem)) (hz : ∀ w, (zeroValue elem).run P w = .ok (.int .u8 0) w)
    (dp : Option Addr) (n c : Nat) (hd : a.eval d = .slice dp n c)
    (g off : Nat) (cur : List Value) (t : TypeId) (hg : w.heap[g]? = some (.cells cur.toArray t (0, 0)))
    (hpos : 0 < n → dp = some ⟨g, off, none⟩) (hfit : off + n ≤ cur.length) (w0 : World) (hb : w0.grownBy w (some g))
    (h : ∀ w', Hid (w'.heap[g]? = some (.cells (splice cur off (List.replicate n (.int .u8 0))).toArray t (0, 0))) → w0.grownBy w' (some g) → K (a.put o.dst (.tuple #[])) w') :
    if Region.wanted o (yielded ops a.tmps) = true then Oper.wp P o a w K Q else E := by
  have hw : Region.wanted o (yielded ops a.tmps) = true := by simp [Region.wanted, hgd]
  rw [if_pos hw]
  by_cases h0 : n = 0
  · subst h0
    have hrun := run_clear_none (P := P) w dT o.type elem hu dp c
    unfold Oper.wp
    simp [execOp, ho, resolve, invoke, builtin, hd, hrun, Result.andThen]
    exact h w (show _ = _ by simpa [splice] using hg) hb
  · obtain rfl := hpos (by omega)
    have hrun := run_clear_row (P := P) w dT o.type elem hu hz g off n c (by omega) cur t hg hfit
    unfold Oper.wp
    simp [execOp, ho, resolve, invoke, builtin, hd, hrun, Result.andThen]
    exact h _ (show _ = _ from setRow_heap w g _ _ t _ hg) (grown_row hb _)

theorem wpList_clear {P : Program} {w : World} {ops : Array Oper} {rest : List Oper} {o : Oper} {a : Act} {Q : Exit → Act → World → Prop} (hgd : o.guard = none) (d : Operand) (dT : TypeId)
    (ho : o.op = .call { callee := .builtin .clear, args := #[d], argTypes := #[dT] }) (elem : TypeId) (hu : P.underlying dT = some (.slice elem)) (hz : ∀ w, (zeroValue elem).run P w = .ok (.int .u8 0) w)
    (dp : Option Addr) (n c : Nat) (hd : a.eval d = .slice dp n c)
    (g off : Nat) (cur : List Value) (t : TypeId) (hg : w.heap[g]? = some (.cells cur.toArray t (0, 0)))
    (hpos : 0 < n → dp = some ⟨g, off, none⟩) (hfit : off + n ≤ cur.length) (w0 : World) (hb : w0.grownBy w (some g))
    (h : ∀ w', Hid (w'.heap[g]? = some (.cells (splice cur off (List.replicate n (.int .u8 0))).toArray t (0, 0))) → w0.grownBy w' (some g) → wpList P ops Q rest (a.put o.dst (.tuple #[])) w') :
    wpList P ops Q (o :: rest) a w := by
  refine wpList_plain hgd fun K hK => ?_
  by_cases h0 : n = 0
  · subst h0
    have hrun := run_clear_none (P := P) w dT o.type elem hu dp c
    unfold Oper.wp
    simp [execOp, ho, resolve, invoke, builtin, hd, hrun, Result.andThen]
    exact hK _ _ (h w (show _ = _ by simpa [splice] using hg) hb)
  · obtain rfl := hpos (by omega)
    have hrun := run_clear_row (P := P) w dT o.type elem hu hz g off n c (by omega) cur t hg hfit
    unfold Oper.wp
    simp [execOp, ho, resolve, invoke, builtin, hd, hrun, Result.andThen]
    exact hK _ _ (h _ (show _ = _ from setRow_heap w g _ _ t _ hg) (grown_row hb _))

theorem Tryd.zero5b (w : World) : (zeroValue 5).run Tryd.prog w = .ok (.int .u8 0) w := by kernel_rfl
end Go.Proofs.YtmafefdchglpbaaDoor
