/-
  Envelopes: signatures with their keys as values and in memory, lists of them, an append of one (condition: roots have 16 bytes).
-/
import Derived.Test.YtcligodahogpkaaGreatDoorZip
import Derived.Test.YtcligodahogpkaaGreatDoorStoM
import Derived.Test.YtcligodahogpkaaGreatDoorTreeA
import Derived.Test.YtcligodahogpkaaGreatDoorGt
import Derived.Deep.DeepCutAuto
import Derived.Deep.RegionWith
set_option maxRecDepth 100000
set_option maxHeartbeats 8000000
namespace Go.Proofs.YtcligodahogpkaaGreatDoor
open Go.RowKit Go.Proofs.YtcligodahogpkaaGreatDoor.One
structure Sg where
 h : Int
 r : List Int
 a : Int
 sp : Option Addr
 n : Nat
 c : Nat
 l : List (List Int)
 sq : Option Addr
 m : Nat
 d : Nat
 q : List (List Int)
def sgP (x : Sg) : List Value := pkL x.h x.r
def sgS (x : Sg) : List Value := siL x.a (.slice x.sp x.n x.c) (.slice x.sq x.m x.d)
def bD (x : Sg) : List Value := sgP x ++ sgS x
def OkG (x : Sg) : Prop := H16 x.r
structure Pg where
 h : Int
 r : List Int
 a : Int
 l : List (List Int)
 q : List (List Int)
def pg (x : Sg) : Pg := ⟨x.h, x.r, x.a, x.l, x.q⟩
theorem iV {x : Sg} (h : OkG x) : (sgP x).length = 17 := by
 have h1 : x.r.length = 16 := h.1
 simp [sgP, pkL, h1]
theorem aG {x : Sg} (h : OkG x) : (bD x).length = 20 := by rw [bD, List.length_append, iV h]; rfl
theorem kA (x : Sg) : ∀ u ∈ bD x, u.oneCell' = true := fun u hu => by
 rcases List.mem_append.1 hu with hu | hu
 ·rcases List.mem_cons.1 hu with rfl | hu
  ·rfl
  ·obtain ⟨i, _, rfl⟩ := List.mem_map.1 hu; rfl
 ·simp only [sgS, siL, List.mem_cons, List.not_mem_nil, or_false] at hu
  rcases hu with rfl | rfl | rfl <;> rfl
theorem eU (x : Sg) : (bD x).toArray.all (·.oneCell') = true := Array.all_eq_true_iff_forall_mem.2 (by simpa using kA x)
theorem CT : (Tryz.prog.info? 62).map (·.size) = some 20 := by kernel_rfl
def zG : List Value := [.int .i64 0] ++ List.replicate 16 (Value.int .u8 0) ++ [.int .i64 0, .slice none 0 0, .slice none 0 0]
theorem xW : (Tryz.prog.info? 62).map (fun i => (i.zero, i.size, i.bytes)) = some (some (.agg zG.toArray), 20, 80) := by kernel_rfl
theorem fM {x : Sg} (h : OkG x) : (Tryz.prog.info? 62).map (·.size) = some (bD x).length := by rw [aG h]; exact CT
theorem eM {x : Sg} (h : OkG x) : (Tryz.prog.info? 62).map (·.size) = some (bD x).toArray.size := fM h
theorem iG {x : Sg} (h : OkG x) : (Tryz.prog.info? 56).map (·.size) = some (sgP x).length := by rw [iV h]; exact CS
theorem rR (x : Sg) : (Tryz.prog.info? 60).map (·.size) = some (sgS x).length := CR
theorem qJ {w : World} {g o : Nat} {x : Sg} (h : w.rangeAt g o (bD x)) : w.rangeAt g o (sgP x) := fun j v hv => h j v (by
 have hj := (List.getElem?_eq_some_iff.1 hv).1
 unfold bD; rw [List.getElem?_append_left hj]; exact hv)
theorem IV {w : World} {g o : Nat} {x : Sg} (h : w.rangeAt g o (bD x)) (hx : OkG x) : w.rangeAt g (o + 17) (sgS x) := fun j v hv => by
 have h1 := h (17 + j) v (by unfold bD; rw [List.getElem?_append_right (by rw [iV hx]; omega), iV hx, show 17 + j - 17 = j by omega]; exact hv)
 rw [show o + 17 + j = o + (17 + j) by omega]
 exact h1
def GB (w : World) (b : Nat) (x : Sg) : Prop := w.heap[b]? = some (.cells (bD x).toArray 62 (0, 0))
theorem GB.all {w : World} {b : Nat} {x : Sg} (h : GB w b x) : w.rangeAt b 0 (bD x) := dP (pre := []) (post := []) h (by simp) rfl
theorem GB.p {w : World} {b : Nat} {x : Sg} (h : GB w b x) : w.rangeAt b 0 (sgP x) := qJ h.all
theorem GB.s {w : World} {b : Nat} {x : Sg} (h : GB w b x) (hx : OkG x) : w.rangeAt b 17 (sgS x) := by have := IV h.all hx; rwa [Nat.zero_add] at this
theorem GB.new (w : World) (x : Sg) : GB (w.alloc (.cells (bD x).toArray 62)) w.heap.size x := heap_alloc_new w _
theorem GB.below {w w' : World} {B b : Nat} {x : Sg} (h : GB w b x) (hb : Below B w w') (hlt : b < B) : GB w' b x := (hb.block b hlt).trans h
structure SgD (w : World) (B : Nat) (x : Sg) : Prop where
 c : HvsIn w B x.sp x.n x.c x.l
 p : HvsIn w B x.sq x.m x.d x.q
 cn : x.sp = none → x.c = 0
 pn : x.sq = none → x.d = 0
theorem SgD.below {w w' : World} {B B' : Nat} {x : Sg} (h : SgD w B x) (hb : Below B' w w') (hB : B ≤ B') : SgD w' B' x := ⟨h.c.below hb hB, h.p.below hb hB, h.cn, h.pn⟩
theorem SgD.up {w w' : World} {B : Nat} {x : Sg} (h : SgD w B x) (hb : Below B w w') (hs : B ≤ w.heap.size) : SgD w' w'.heap.size x := (h.below hb (Nat.le_refl _)).below (Below.refl _ _) (Nat.le_trans hs hb.size)
structure SgsIn (w : World) (B : Nat) (sp : Option Addr) (n cap : Nat) (l : List Sg) : Prop where
 len : l.length = n
 ok : ∀ x ∈ l, OkG x
 dat : ∀ x ∈ l, SgD w B x
 cells : 0 < n → ∃ b off, sp = some ⟨b, off, none⟩ ∧ b < B ∧ n ≤ cap ∧ ∀ i x, l[i]? = some x → w.rangeAt b (off + i * 20) (bD x)
theorem SgsIn.below {w w' : World} {B B' : Nat} {sp : Option Addr} {n cap : Nat} {l : List Sg} (h : SgsIn w B sp n cap l) (hb : Below B' w w') (hB : B ≤ B') : SgsIn w' B' sp n cap l :=
 ⟨h.len, h.ok, fun x hx => (h.dat x hx).below hb hB, fun hn => by
  obtain ⟨b, off, e, hlt, hc, hr⟩ := h.cells hn
  exact ⟨b, off, e, by omega, hc, fun i x hi => aA (hr i x hi) hb (by omega)⟩⟩
theorem SgsIn.up {w w' : World} {B : Nat} {sp : Option Addr} {n cap : Nat} {l : List Sg} (h : SgsIn w B sp n cap l) (hb : Below B w w') (hs : B ≤ w.heap.size) : SgsIn w' w'.heap.size sp n cap l :=
 (h.below hb (Nat.le_refl _)).below (Below.refl w'.heap.size w') (Nat.le_trans hs hb.size)
theorem SgsIn.nil (w : World) (B : Nat) : SgsIn w B none 0 0 [] := ⟨rfl, fun x hx => (by cases hx), fun x hx => (by cases hx), fun h => by omega⟩
def aS (l : List Sg) : List Value := l.flatMap bD
theorem qI (l : List Sg) (x : Sg) : aS (l ++ [x]) = aS l ++ bD x := by simp [aS]
theorem dI (l m : List Sg) : aS (l ++ m) = aS l ++ aS m := by simp [aS]
theorem oO {l : List Sg} : ∀ u ∈ aS l, u.oneCell' = true := fun u hu => by
 obtain ⟨x, _, hu⟩ := List.mem_flatMap.1 hu
 exact kA x u hu
def OwnG (w : World) (base : Nat) (v : Value) (l : List Sg) : Prop := w.ownsRow base 62 20 v l.length (aS l) ∧ ∀ x ∈ l, OkG x
theorem OwnG.sgs {w : World} {base : Nat} {sp : Option Addr} {n cap : Nat} {l : List Sg} (h : OwnG w base (.slice sp n cap) l) (hn : l.length = n) (hd : ∀ x ∈ l, SgD w w.heap.size x) : SgsIn w w.heap.size sp n cap l := by
 refine ⟨hn, h.2, hd, fun h0 => ?_⟩
 have h1 := h.1
 obtain ⟨_, ⟨e, e0⟩ | ⟨g, cap', cur, e, _⟩⟩ := h.1
 ·omega
 ·injection e with e1 e2 e3
  subst e1
  obtain ⟨hg, hc, hr⟩ := mJ (f := bD) h1 (fun x hx => aG (h.2 x hx)) hn
  exact ⟨g, 0, rfl, hg, hc, hr⟩
theorem OwnG.below {w w' : World} {base : Nat} {v : Value} {l : List Sg} (h : OwnG w base v l) (hb : Below w.heap.size w w') : OwnG w' base v l := ⟨eN h.1 hb, h.2⟩
theorem OwnG.nil (w : World) (base : Nat) : OwnG w base (.slice none 0 0) [] := ⟨World.ownsRow_nil w base _ _, by simp⟩
theorem OwnG.base {w : World} {b b' : Nat} {v : Value} {l : List Sg} (h : OwnG w b v l) (hb : b' ≤ b) : OwnG w b' v l := by
 refine ⟨?_, h.2⟩
 obtain ⟨hl, h1 | ⟨g, cap, cur, e, hbg, rest⟩⟩ := h.1
 ·exact ⟨hl, .inl h1⟩
 ·exact ⟨hl, .inr ⟨g, cap, cur, e, Nat.le_trans hb hbg, rest⟩⟩
theorem OwnG.nilcap {w : World} {base n cap : Nat} {sp : Option Addr} {l : List Sg} (h : OwnG w base (.slice sp n cap) l) : sp = none → cap = 0 := by
 rintro rfl
 obtain ⟨_, ⟨e, _⟩ | ⟨g, c, u, e, _⟩⟩ := h.1
 ·cases e; rfl
 ·cases e
theorem eR {w : World} {ops : Array Oper} {rest : List Oper} {o : Oper} {a : Act} {Q : Exit → Act → World → Prop} (hgd : o.guard = none) (s x : Operand)
 (ho : o.op = .call { callee := .builtin .append, args := #[s, x], argTypes := #[23, 23] }) (base : Nat) (v : Value) (l : List Sg) (n : Nat) (hn : n = l.length) (hs : a.eval s = v) (hown : OwnG w base v l)
 (g : Nat) (y : Sg) (hx : a.eval x = .slice (some ⟨g, 0, none⟩) 1 1) (hy : GB w g y) (hok : OkG y) (hlen : n ≤ 1000000) (hbase : base ≤ w.heap.size)
 (h : ∀ sp cap w', Hid (OwnG w' base (.slice sp (n + 1) cap) (l ++ [y])) → Hid (Below base w w') → Hid (w.grownBy w' v.ownBlock) → wpList Tryz.prog ops Q rest (a.put o.dst (.slice sp (n + 1) cap)) w') : wpList Tryz.prog ops Q (o :: rest) a w := by
 subst hn
 obtain ⟨i0, hi0, hz0, hz1, hz2⟩ := bF xW
 refine wpList_append_own w hgd s x _ ho base _ i0 _ 20 80 Tryz.underlying23 hi0 hz0 hz1 hz2 rfl (by decide) v l.length _ hs hown.1 ⟨g, 0, none⟩ 1 1 (bD y) hx (by rw [aG hok]) ?_ (kA y) (by unfold maxLen; omega) (by omega) hbase ?_
 ·intro j u hj
  rw [Addr.add_mid]
  exact hy.all j u hj
 ·intro v' w' h1 h2 _
  obtain ⟨sp, cap, rfl⟩ := aZ h1
  refine h sp cap w' ⟨by rw [qI, List.length_append]; exact h1, fun z hz => ?_⟩ ((Below.refl base w).grown h2 hbase (bL hown.1)) h2
  rcases List.mem_append.1 hz with hz | hz
  ·exact hown.2 z hz
  ·rw [List.mem_singleton.1 hz]; exact hok
theorem NL : (Tryz.prog.info? 62).map (·.zero) = some (some (.agg zG.toArray)) := by kernel_rfl
theorem qD (w : World) (x : Sg) (hx : OkG x) : (Instr.buildSlice 23 1 #[(0, .agg (bD x).toArray)]).run Tryz.prog w = .ok (.slice (some ⟨w.heap.size, 0, none⟩) 1 1) (w.alloc (.cells (bD x).toArray 62)) := by
 have h := aG hx
 have hz := NL
 have hi := CT
 cases hie : Tryz.prog.info? 62 with
 | none => rw [hie] at hi; cases hi
 | some ie =>
   rw [hie] at hi hz
   exact oK w _ _ _ ie _ Tryz.underlying23 hie (by injection hz) (by rw [h]; injection hi) (by omega) (by omega)
theorem JI (x : Sg) (hx : OkG x) (w : World) :
 (Instr.build 62 #[(0, .agg (pkA x.h x.r)), (1, .agg (siA x.a (.slice x.sp x.n x.c) (.slice x.sq x.m x.d)))]).run Tryz.prog w = .ok (.agg (bD x).toArray) w := by
 refine run_build w _ _ _ ?_
 rw [mT NL Tryz.underlying62 (places := [(0, 17), (17, 3)]) (by kernel_rfl)]
 show Instr.fill _ ([] ++ (([Value.int .i64 0] ++ List.replicate 16 (Value.int .u8 0)) ++ [Value.int .i64 0, Value.slice none 0 0, Value.slice none 0 0])).toArray [(0, .agg (sgP x).toArray), (1, .agg (sgS x).toArray)] = _
 rw [jF (sgP x) [] ([Value.int .i64 0] ++ List.replicate 16 (Value.int .u8 0)) [Value.int .i64 0, Value.slice none 0 0, Value.slice none 0 0] rfl rfl (by rw [iV hx]; rfl) rfl rfl, List.nil_append]
 rw [show sgP x ++ [Value.int .i64 0, Value.slice none 0 0, Value.slice none 0 0] = sgP x ++ ([Value.int .i64 0, Value.slice none 0 0, Value.slice none 0 0] ++ []) by simp]
 rw [jF (sgS x) (sgP x) [Value.int .i64 0, Value.slice none 0 0, Value.slice none 0 0] [] (off := 17) (sz := 3) rfl rfl rfl (by rw [iV hx]) rfl]
 simp [Instr.fill, bD]
theorem jZ {x : Sg} (h : OkG x) : zG.toArray.size = (bD x).toArray.size := by
 rw [List.size_toArray, List.size_toArray, aG h]; rfl
def enL (t : ByteArray) (p s : Value) : List Value := [.string t, p, s]
def enA (t : ByteArray) (p s : Value) : Array Value := (enL t p s).toArray
theorem JD : (Tryz.prog.info? 25).map (·.size) = some 3 := by kernel_rfl
theorem aL (t : ByteArray) (p s : Value) : (Tryz.prog.info? 25).map (·.size) = some (enA t p s).size := JD
theorem cJ (t : ByteArray) (s1 : Option Addr) (n1 c1 : Nat) (s2 : Option Addr) (n2 c2 : Nat) : (enA t (.slice s1 n1 c1) (.slice s2 n2 c2)).all (·.oneCell') = true := by
 simp [enA, enL, Value.oneCell']
def zEn : Array Value := enA ⟨#[]⟩ aM aM
theorem kH (w : World) : (Instr.build 25 #[]).run Tryz.prog w = .ok (.agg zEn) w := by kernel_rfl
theorem GN {w : World} {b : Nat} {t : ByteArray} {p s : Value} {fr : Nat × Nat} (hb : w.heap[b]? = some (.cells (enA t p s) 25 fr)) : w.cell? ⟨b, 0, none⟩ = some (.string t) := aH (L := enL t p s) hb rfl
theorem pU {w : World} {b : Nat} {t : ByteArray} {p s : Value} {fr : Nat × Nat} (hb : w.heap[b]? = some (.cells (enA t p s) 25 fr)) : w.cell? ⟨b, 1, none⟩ = some p := aH (L := enL t p s) hb rfl
theorem kP {w : World} {b : Nat} {t : ByteArray} {p s : Value} {fr : Nat × Nat} (hb : w.heap[b]? = some (.cells (enA t p s) 25 fr)) : w.cell? ⟨b, 2, none⟩ = some s := aH (L := enL t p s) hb rfl
end Go.Proofs.YtcligodahogpkaaGreatDoor
namespace Go.Proofs.YtcligodahogpkaaGreatDoor
open Go.RowKit
structure Blks (B : Nat) (w0 w : World) (l : List (Nat × Obj)) : Prop where
 b : Below B w0 w
 k : B ≤ w.heap.size
 h : ∀ p ∈ l, B ≤ p.1 ∧ p.1 < w.heap.size ∧ w.heap[p.1]? = some p.2
 nd : (l.map Prod.fst).Nodup
theorem Blks.start {B : Nat} {w0 w : World} (h : Below B w0 w) (hk : B ≤ w.heap.size) : Blks B w0 w [] := ⟨h, hk, by simp, by simp⟩
theorem Blks.drew {B : Nat} {w0 w : World} {l : List (Nat × Obj)} (h : Blks B w0 w l) : Blks B w0 w.drew l := ⟨h.b.drew, h.k, h.h, h.nd⟩
theorem Blks.call {B : Nat} {w0 w w' : World} {l : List (Nat × Obj)} (h : Blks B w0 w l) (hb : Below w.heap.size w w') : Blks B w0 w' l :=
 ⟨h.b.trans (hb.mono h.k), Nat.le_trans h.k hb.size, fun p hp => ⟨(h.h p hp).1, Nat.lt_of_lt_of_le (h.h p hp).2.1 hb.size, (hb.block _ (h.h p hp).2.1).trans (h.h p hp).2.2⟩, h.nd⟩
theorem Blks.alloc {B : Nat} {w0 w : World} {l : List (Nat × Obj)} (h : Blks B w0 w l) (o : Obj) : Blks B w0 (w.alloc o) ((w.heap.size, o) :: l) :=
 ⟨h.b.alloc h.k o, by simp; exact Nat.le_succ_of_le h.k, fun p hp => by
  rcases List.mem_cons.1 hp with rfl | hp
  ·exact ⟨h.k, by simp, heap_alloc_new w o⟩
  ·exact ⟨(h.h p hp).1, by simp; exact Nat.lt_succ_of_lt (h.h p hp).2.1, (heap_alloc_old w o (h.h p hp).2.1).trans (h.h p hp).2.2⟩, by
  rw [List.map_cons, List.nodup_cons]
  refine ⟨fun hm => ?_, h.nd⟩
  obtain ⟨p, hp, e⟩ := List.mem_map.1 hm
  have := (h.h p hp).2.1
  omega⟩
theorem Blks.at {B : Nat} {w0 w : World} {l : List (Nat × Obj)} (h : Blks B w0 w l) (i : Nat) {g : Nat} {o : Obj} (hi : l[i]? = some (g, o)) : w.heap[g]? = some o := (h.h (g, o) (List.mem_of_getElem? hi)).2.2
theorem Blks.lt {B : Nat} {w0 w : World} {l : List (Nat × Obj)} (h : Blks B w0 w l) (i : Nat) {g : Nat} {o : Obj} (hi : l[i]? = some (g, o)) : B ≤ g ∧ g < w.heap.size := ⟨(h.h (g, o) (List.mem_of_getElem? hi)).1, (h.h (g, o) (List.mem_of_getElem? hi)).2.1⟩
theorem Blks.ne {B : Nat} {w0 w : World} {l : List (Nat × Obj)} (h : Blks B w0 w l) (i j : Nat) {g g' : Nat} {o o' : Obj} (hi : l[i]? = some (g, o)) (hj : l[j]? = some (g', o')) (hij : i ≠ j) : g ≠ g' := fun e => by
 obtain ⟨h1, e1⟩ := List.getElem?_eq_some_iff.1 hi
 obtain ⟨h2, e2⟩ := List.getElem?_eq_some_iff.1 hj
 refine hij ((List.getElem_inj (i := i) (j := j) (h₀ := by simpa using h1) (h₁ := by simpa using h2) h.nd).1 ?_)
 rw [List.getElem_map, List.getElem_map, e1, e2]
 exact e
theorem Blks.set {B : Nat} {w0 w : World} {l : List (Nat × Obj)} (h : Blks B w0 w l) (i : Nat) {g : Nat} {cs : Array Value} {t : TypeId} (hi : l[i]? = some (g, .cells cs t (0, 0))) (ds : Array Value) :
 Blks B w0 (w.setRow g ds) (l.set i (g, .cells ds t (0, 0))) := by
 have hm := h.h _ (List.mem_of_getElem? hi)
 have hnew : (w.setRow g ds).heap[g]? = some (.cells ds t (0, 0)) := setRow_heap _ _ _ _ _ _ hm.2.2
 have hsz : (w.setRow g ds).heap.size = w.heap.size := by simp [World.setRow]
 refine ⟨below_setRow h.b hm.1 _, by rw [hsz]; exact h.k, fun p hp => ?_, ?_⟩
 ·obtain ⟨j, hj, e⟩ := List.getElem_of_mem hp
  rw [List.length_set] at hj
  rw [List.getElem_set] at e
  split at e
  ·subst e; exact ⟨hm.1, by rw [hsz]; exact hm.2.1, hnew⟩
  ·next hne =>
   have hq := h.h p (by rw [← e]; exact List.getElem_mem _)
   have hpg : p.1 ≠ g := fun e1 => by
    have := h.ne j i (g := p.1) (o := p.2) (by rw [List.getElem?_eq_getElem hj, e]) hi (fun e2 => hne e2.symm)
    exact this e1
   exact ⟨hq.1, by rw [hsz]; exact hq.2.1, (setRow_other _ _ _ _ hpg).trans hq.2.2⟩
 ·rw [List.map_set]
  obtain ⟨h1, e1⟩ := List.getElem?_eq_some_iff.1 hi
  have : (l.map Prod.fst).set i g = l.map Prod.fst := by
   apply List.ext_getElem
   ·simp
   ·intro j h2 h3
    rw [List.getElem_set]
    split
    ·next e => subst e; rw [List.getElem_map, e1]
    ·rfl
  rw [this]; exact h.nd
theorem Blks.allocd {B : Nat} {w0 w : World} {l : List (Nat × Obj)} (h : Blks B w0 w l) (o : Obj) : ∃ g1 w1, w.heap.size = g1 ∧ w.alloc o = w1 ∧ Hid (Blks B w0 w1 ((g1, o) :: l)) ∧ Hid (Below w.heap.size w w1) := ⟨_, _, rfl, rfl, h.alloc o, (Below.refl _ _).alloc (Nat.le_refl _) o⟩
theorem Blks.allocdD {B : Nat} {w0 w : World} {l : List (Nat × Obj)} (h : Blks B w0 w l) (o : Obj) : ∃ g1 w1, w.heap.size = g1 ∧ (w.alloc o).drew = w1 ∧ Hid (Blks B w0 w1 ((g1, o) :: l)) ∧ Hid (Below w.heap.size w w1) := ⟨_, _, rfl, rfl, (h.alloc o).drew, ((Below.refl _ _).alloc (Nat.le_refl _) o).drew⟩
theorem kZ {w a b : World} {g : Nat} (h : w.grownBy a (some g)) (hb : Below w.heap.size a b) : w.grownBy b (some g) :=
 ⟨hb.os.trans h.os, hb.tape.trans h.tape, hb.output.trans h.output, Nat.le_trans h.size hb.size, fun k hk hne => (hb.block k hk).trans (h.block k hk hne)⟩
theorem eX {w a : World} {g B : Nat} (h : w.grownBy a (some g)) (hB : B ≤ g) (hs : B ≤ w.heap.size) : Below B w a :=
 ⟨h.os, h.tape, h.output, h.size, fun k hk => h.block k (by omega) (fun e => by injection e with e; omega)⟩
theorem zU (w : World) (g : Nat) : w.grownBy w (some g) := World.grownBy.refl _ _
theorem rM {w : World} {b1 b2 e1 e2 s1 s2 n1 n2 : Nat} {v1 v2 : Value} {x1 x2 : List Value} (h1 : w.ownsRow b1 e1 s1 v1 n1 x1) (h2 : w.ownsRow b2 e2 s2 v2 n2 x2) (hne : e1 ≠ e2) : v1.ownBlock = none ∨ v1.ownBlock ≠ v2.ownBlock := by
 obtain ⟨_, ⟨rfl, _⟩ | ⟨g, cap, cur, rfl, _, hg, _⟩⟩ := h1
 ·exact .inl rfl
 ·obtain ⟨_, ⟨rfl, _⟩ | ⟨g', cap', cur', rfl, _, hg', _⟩⟩ := h2
  ·exact .inr (by simp [Value.ownBlock])
  ·refine .inr fun e => ?_
   have e' : g = g' := by simpa [Value.ownBlock] using e
   subst e'
   rw [hg] at hg'
   injection hg' with hg'; injection hg' with _ h _
   exact hne h
theorem cF {w : World} {b e s n : Nat} {v : Value} {x : List Value} (h : w.ownsRow b e s v n x) {g : Nat} {cs : Array Value} {t : TypeId} {fr : Nat × Nat} (hg : w.heap[g]? = some (.cells cs t fr)) (ht : t ≠ e) : v.ownBlock = none ∨ v.ownBlock ≠ some g := by
 obtain ⟨_, ⟨rfl, _⟩ | ⟨g1, c, u, rfl, _, hg1, _⟩⟩ := h
 ·exact .inl rfl
 ·refine .inr fun e => ?_
  injection e with e
  subst e
  rw [hg1] at hg
  injection hg with hg
  injection hg with _ h2 _
  exact ht h2.symm
end Go.Proofs.YtcligodahogpkaaGreatDoor
namespace Go.Proofs.YtcligodahogpkaaGreatDoor
open Go.RowKit Go.Proofs.YtcligodahogpkaaGreatDoor.One
theorem uR (b1 o1 n1 c1 : Nat) (xs : List Int) (b2 o2 n2 c2 : Nat) (ys : List Int) (hx : xs.length = n1) (hy : ys.length = n2) (w : World)
 (h1 : ∀ i, i < n1 → w.cell? ⟨b1, o1 + i, none⟩ = some (.int .u8 (xs.getD i 0))) (h2 : ∀ i, i < n2 → w.cell? ⟨b2, o2 + i, none⟩ = some (.int .u8 (ys.getD i 0))) :
 Calls Tryz.prog 93 #[.slice (some ⟨b1, o1, none⟩) n1 c1, .slice (some ⟨b2, o2, none⟩) n2 c2] w fun e w' => e = .returned (.int .i64 (Lib.compareBytes (Lib.bytesOf xs) (Lib.bytesOf ys))) ∧ w = w' := by
 have HR := zh (oM (P := Tryz.prog) b1 o1 n1 c1 xs b2 o2 n2 c2 ys hx hy h1 h2)
 go_enter Tryz.func93, Tryz.ntmps93
 go_wp2
 rw [run_callFunc_extern Tryz.func133 (by kernel_rfl) (by kernel_rfl) (by kernel_rfl) (e := Extern.BytealgCompare.compare) (by kernel_rfl), HR.out]
 simp only [Result.andThen]
 rw [Oper.upon_value]
 go_wp2
 go_ret
 exact ⟨rfl, rfl⟩
def AN (a b : List Int) : Int := Lib.compareBytes (Lib.bytesOf a) (Lib.bytesOf b)
theorem LV {a b : List Int} (ha : D32 a) (hb : D32 b) : decide (AN a b ≥ 0) = !dls a b := AB a b (fun x hx => ha.2 x hx) (fun x hx => hb.2 x hx)
theorem rP (a b : List Int) (w : World) (ha : D32 a) (hb : D32 b) :
 Calls Tryz.prog 37 #[.agg (dv a), .agg (dv b)] w fun e w' => e = .returned (.bool (dls a b)) ∧ Below w.heap.size w w' := by
 have HLA := zh ha; have HLB := zh hb
 obtain ⟨w0, hw0⟩ : ∃ w0, (w.alloc (.cells (dv a) 43)).alloc (.cells (dv b) 43) = w0 := ⟨_, rfl⟩
 have HB0 := zh (show Below w.heap.size w w0 by rw [← hw0]; exact ((Below.refl _ _).alloc (Nat.le_refl _) _).alloc (by simp) _)
 have HCB := zh (show ∀ i x, b[i]? = some x → w0.cell? ⟨w.heap.size + 1, i, none⟩ = some (.int .u8 x) by
  rw [← hw0]; intro i x hx
  have h1 := heap_alloc_new (w.alloc (.cells (dv a) 43)) (.cells (dv b) 43)
  rw [World.size_alloc] at h1
  rw [cell_of_row _ _ i _ _ _ h1]; simp [dv, hx])
 have HCA := zh (show ∀ i x, a[i]? = some x → w0.cell? ⟨w.heap.size, i, none⟩ = some (.int .u8 x) by
  rw [← hw0]; intro i x hx
  have h1 := heap_alloc_new w (.cells (dv a) 43)
  rw [← Below.heap_alloc (w.alloc (.cells (dv a) 43)) (.cells (dv b) 43) w.heap.size (by simp)] at h1
  rw [cell_of_row _ _ i _ _ _ h1]; simp [dv, hx])
 have HS0 := zh (show w.heap.size + 1 < w0.heap.size by rw [← hw0]; simp)
 clear ha hb
 go_enter Tryz.func37, Tryz.ntmps37
 go_wp2_with fail
 have hw0' := hw0
 unfold dv at hw0'
 first | rw [hw0] | rw [hw0'] | skip
 have HBB := zh (show w.heap.size < w0.heap.size ∧ w.heap.size + 1 < w0.heap.size from ⟨by have := HS0.out; omega, HS0.out⟩)
 clear hw0 hw0'
 go_loopw [5] (fun i wr => ∃ k : Nat, k ≤ 32 ∧ i = .int .i64 k ∧ Hid (dls a b = dls (a.drop k) (b.drop k) ∧ Below w0.heap.size w0 wr)) (fun i _ => 32 - (intOf i).toNat)
 case atStart => exact ⟨0, by omega, rfl, rfl, Below.refl _ _⟩
 case round =>
  obtain ⟨k, hk, rfl, H⟩ := hrel
  have HE := zh H.out.1; have HBE := zh H.out.2
  clear H
  by_cases hlt : k < 32
  ·have hd : decide ((k : Int) < 32) = true := by simp; omega
   have p1 : (0 : Int) ≤ (k : Int) := by omega
   have p2 : (k : Int) < 32 := by omega
   obtain ⟨x, hx⟩ : ∃ x, a[k]? = some x := ⟨a[k]'(by have := HLA.out.1; omega), List.getElem?_eq_getElem _⟩
   obtain ⟨y, hy⟩ : ∃ y, b[k]? = some y := ⟨b[k]'(by have := HLB.out.1; omega), List.getElem?_eq_getElem _⟩
   have x1 : ∀ q, (wr.drewN q).cell? ⟨w.heap.size, k, none⟩ = some (.int .u8 x) := fun q => (HBE.out.cell (p := ⟨w.heap.size, k, none⟩) HBB.out.1).trans (HCA.out k x hx)
   have y1 : ∀ q, (wr.drewN q).cell? ⟨w.heap.size + 1, k, none⟩ = some (.int .u8 y) := fun q => (HBE.out.cell (p := ⟨w.heap.size + 1, k, none⟩) HBB.out.2).trans (HCB.out k y hy)
   have x0 : wr.cell? ⟨w.heap.size, k, none⟩ = some (.int .u8 x) := x1 0
   have y0 : wr.cell? ⟨w.heap.size + 1, k, none⟩ = some (.int .u8 y) := y1 0
   have HST := zh (GO HE.out hx hy)
   have HW : Hid (∀ q, Below w0.heap.size w0 (wr.drewN q)) := fun q => HBE.out.trans (⟨rfl, rfl, rfl, Nat.le_refl _, fun _ _ => rfl⟩)
   clear hx hy
   by_cases he : x = y
   ·subst he
    have h1 : (!(x == x)) = false := by simp
    have HN := zh (HST.out.1 rfl)
    go_wp2_with fail
    go_quiet (fail)
    go_wp2_with fail
    go_roundw
    case rel => exact ⟨k + 1, by omega, by go_num, HN.out, HW.out _⟩
    case measure => simp [intOf]; omega
   ·have h1 : (!(x == y)) = true := by simp; exact he
    have h2 : (x == y) = false := by simp; exact he
    have HN := zh (HST.out.2 he)
    go_wp2_with fail
    go_quiet (fail)
    have HW2 := zh (HW.out nq)
    have x3 := x1 nq; have y3 := y1 nq
    have x2 : ∀ q, ((wr.drewN nq).drewN q).cell? ⟨w.heap.size, k, none⟩ = some (.int .u8 x) := fun q => x1 0
    have y2 : ∀ q, ((wr.drewN nq).drewN q).cell? ⟨w.heap.size + 1, k, none⟩ = some (.int .u8 y) := fun q => y1 0
    clear x1 y1 x0 y0
    generalize World.drewN wr nq = wq at *
    have HW3 : Hid (∀ q, Below w0.heap.size w0 (wq.drewN q)) := fun q => HW2.out.trans (⟨rfl, rfl, rfl, Nat.le_refl _, fun _ _ => rfl⟩)
    go_wp2_with fail
    go_quiet (fail)
    go_wp2_with fail
    go_ret
    exact ⟨by rw [HN.out]; rfl, HB0.out.trans ((HW3.out _).mono HB0.out.size)⟩
  ·obtain rfl : k = 32 := by omega
   have hd : decide (((32 : Nat) : Int) < 32) = false := by simp
   have HN := zh (show dls a b = false by
    rw [HE.out, List.drop_of_length_le (by rw [HLA.out.1]; exact Nat.le_refl _), List.drop_of_length_le (by rw [HLB.out.1]; exact Nat.le_refl _)]; rfl)
   go_wp2_with fail
   go_ret
   exact ⟨by rw [HN.out]; rfl, HB0.out.trans (HBE.out.mono HB0.out.size)⟩
def idP (p : Pg) : List Int := aT (sha (idB p.h p.r)).list
theorem iQ (p : Pg) : D32 (idP p) := ⟨by simp [idP, aR, St.list_length], fun x hx => kF _ x hx⟩
theorem DT {w : World} {g : Nat} {x : List Int} {t : TypeId} (h : w.heap[g]? = some (.cells (x.map (Value.int .u8)).toArray t (0, 0))) (i : Nat) (hi : i < x.length) : w.cell? ⟨g, 0 + i, none⟩ = some (.int .u8 (x.getD i 0)) := by
 rw [Nat.zero_add, cell_of_row w g i _ _ _ h]
 simp [List.getD_eq_getElem?_getD, List.getElem?_eq_getElem hi]
structure GgB (w : World) (x y : Sg) (w0 : World) : Prop where
 x : GB w0 w.heap.size x
 y : GB w0 (w.heap.size + 1) y
 b : Below w.heap.size w w0
 k : w0.heap.size = w.heap.size + 2
theorem GgB.new (w : World) (x y : Sg) : GgB w x y ((w.alloc (.cells (bD x).toArray 62)).alloc (.cells (bD y).toArray 62)) :=
 ⟨(heap_alloc_old _ _ (by simp)).trans (heap_alloc_new w _), by have h := GB.new (w.alloc (.cells (bD x).toArray 62)) y; rw [World.size_alloc] at h; exact h, ((Below.refl _ _).alloc (Nat.le_refl _) _).alloc (by simp) _, by simp⟩
theorem gK (x y : Sg) (w : World) (hx : OkG x) (hy : OkG y) (hk : KayIn w) (hk0 : 1 < w.heap.size) :
 Calls Tryz.prog 60 #[.agg (bD x).toArray, .agg (bD y).toArray] w fun e w' => e = .returned (.int .i64 (AN (idP (pg x)) (idP (pg y)))) ∧ Below w.heap.size w w' := by
 have HIX := zh (iG hx); have HIY := zh (iG hy)
 have HT := zh (GgB.new w x y)
 have HK := zh hk
 have HRX := zh hx; have HRY := zh hy
 clear hk hx hy
 obtain ⟨A, hA⟩ : ∃ A, idB x.h x.r = A := ⟨_, rfl⟩
 obtain ⟨C, hC⟩ : ∃ C, idB y.h y.r = C := ⟨_, rfl⟩
 rw [show idP (pg x) = aT (sha A).list by rw [← hA]; rfl, show idP (pg y) = aT (sha C).list by rw [← hC]; rfl]
 have HA := zh hA; have HC := zh hC
 clear hA hC
 go_enter Tryz.func60, Tryz.ntmps60
 go_upto_region 1 with (fail)
 generalize hw0 : World.alloc (World.alloc w _) _ = w0
 have HT0 : Hid (GgB w x y w0) := by rw [← hw0]; exact HT.out
 clear hw0 HT
 have hs0 := HT0.out.k
 obtain ⟨B, hBe⟩ : ∃ B, B = w0.heap.size := ⟨_, rfl⟩
 have AO : Hid (Blks B w0 w0 []) := Blks.start (Below.refl _ _) (Nat.le_of_eq hBe)
 have hBe2 : B = w.heap.size + 2 := by omega
 have HLT : Hid (w.heap.size < B ∧ w.heap.size + 1 < B) := ⟨by omega, by omega⟩
 have HX0 := zh HT0.out.x.p; have HY0 := zh HT0.out.y.p
 have HCX : Hid (∀ w', Below B w0 w' → Calls Tryz.prog 35 #[.agg (sgP x).toArray] w' fun e w'' => e = .returned (.agg (dg A)) ∧ Below w'.heap.size w' w'') := fun w' hb => by rw [← HA.out]; exact CZ x.h x.r w' HRX.out (HK.out.below (HT0.out.b.trans (hb.mono (by omega))) hk0) (by have := hb.size; omega)
 have HCY : Hid (∀ w', Below B w0 w' → Calls Tryz.prog 35 #[.agg (sgP y).toArray] w' fun e w'' => e = .returned (.agg (dg C)) ∧ Below w'.heap.size w' w'') := fun w' hb => by rw [← HC.out]; exact CZ y.h y.r w' HRY.out (HK.out.below (HT0.out.b.trans (hb.mono (by omega))) hk0) (by have := hb.size; omega)
 clear hBe hBe2 hs0
 go_cut [5, 6] (fun s5 s6 wx => ∃ ga gb : Nat, s5 = .pointer (some ⟨ga, 0, none⟩) ∧ s6 = .pointer (some ⟨gb, 0, none⟩) ∧ Hid (wx.heap[ga]? = some (.cells (dg A) 43 (0, 0)) ∧ wx.heap[gb]? = some (.cells (dg C) 43 (0, 0)) ∧ Below B w0 wx))
 case first =>
  as_aux_lemma =>
   refine wp_region_held_drew (S := fun w' => Below B w0 w') (by kernel_rfl) AO.out.b.drew (fun hHeld => ?_)
   refine zv 0 rfl ?_
   refine' zk 1 rfl (v := _) (yieldsIf_load_mid (by rfl) _ _ rfl _ _ rfl _ _ ?hS1n2 Tryz.underlying56 rfl HIX.out) ?rest1n2
   case hS1n2 =>
    intro w' hSw
    exact aA HX0.out hSw HLT.out.1
   try simp only [Act.put, zA, zB, zC, zD, zE, zF]
   refine zv 3 rfl ?_
   refine' zk 4 rfl (v := _) (yieldsIf_load_mid (by rfl) _ _ rfl _ _ rfl _ _ ?hS4n4 Tryz.underlying56 rfl HIY.out) ?rest4n4
   case hS4n4 =>
    intro w' hSw
    exact aA HY0.out hSw HLT.out.2
   try simp only [Act.put, zA, zB, zC, zD, zE, zF]
   refine wpAnyH_ready (rs := [2, 6, 7]) (by kernel_rfl) (by simp) (AllReadyH.cons (o := _) rfl (fun K hK => ?_) (AllReadyH.cons (o := _) rfl (fun K hK => ?_) (AllReadyH.cons (o := _) rfl (fun K hK => ?_) AllReadyH.nil)))
   go_simp
   with_reducible refine (HCX.out _ (AO.out.drew).b).mono ?_
   rintro e v1 ⟨rfl, hb⟩
   have cW := zh (AO.out.call ((Below.refl _ _).drew.trans hb))
   clear hb
   go_wp2_with fail
   refine hK.out _ _ cW.out.b fun _ => ?_; clear hK K
   refine wpAnyH_ready (rs := [5, 6, 7]) (by kernel_rfl) (by simp) (AllReadyH.cons (o := _) rfl (fun K hK => ?_) (AllReadyH.cons (o := _) rfl (fun K hK => ?_) (AllReadyH.cons (o := _) rfl (fun K hK => ?_) AllReadyH.nil)))
   go_simp
   with_reducible refine (HCY.out _ (cW.out).b).mono ?_
   rintro e v2 ⟨rfl, hb⟩
   have aW := zh (cW.out.call hb)
   clear hb
   go_wp2_with fail
   refine hK.out _ _ aW.out.b fun _ => ?_; clear hK K
   refine zs 6 7 rfl (fun K hK => ?_) rfl (fun K hK => ?_)
   obtain ⟨ga, v3, hg, hw, aO, HEv3⟩ := aW.out.allocd (.cells (Array.replicate 32 (Value.int .u8 0)) 43 (0, 0))
   go_simp
   try rw [hg]
   generalize hq : World.alloc v2 _ = q
   obtain rfl : v3 = q := hw.symm.trans hq
   clear hg hw hq
   refine hK.out _ _ aO.out.b fun _ => ?_; clear hK K
   refine zr 7 rfl (fun K hK => ?_)
   obtain ⟨gb, v4, hg, hw, aI, HEv4⟩ := aO.out.allocd (.cells (Array.replicate 32 (Value.int .u8 0)) 43 (0, 0))
   go_simp
   try rw [hg]
   generalize hq : World.alloc v3 _ = q
   obtain rfl : v4 = q := hw.symm.trans hq
   clear hg hw hq
   refine hK.out _ _ aI.out.b fun _ => ?_; clear hK K
   refine zr 8 rfl (fun K hK => ?_)
   rw [if_pos (by rfl)]
   refine wp_store_row 43 _ _ rfl ga (dg A) rfl rfl 43 _ (aI.out.at 1 rfl) (bP _) (by rw [bY]; rfl) (cZ _) ?_
   generalize hw : World.setRow v4 _ _ = v5
   have aE := zh (aI.out.set 1 rfl (dg A))
   rw [hw] at aE
   clear hw
   refine hK.out _ _ aE.out.b fun _ => ?_; clear hK K
   refine zr 9 rfl (fun K hK => ?_)
   rw [if_pos (by rfl)]
   refine wp_store_row 43 _ _ rfl gb (dg C) rfl rfl 43 _ (aE.out.at 0 rfl) (bP _) (by rw [bY]; rfl) (cZ _) ?_
   generalize hw : World.setRow v5 _ _ = v6
   have aF := zh (aE.out.set 0 rfl (dg C))
   rw [hw] at aF
   clear hw
   refine hK.out _ _ aF.out.b fun _ => ?_; clear hK K
   refine zd ?_ _
   go_wp2_with fail
   go_meet
   exact ⟨ga, gb, rfl, rfl, aF.out.at 1 rfl, aF.out.at 0 rfl, aF.out.b⟩
   obtain ⟨gb, v3, hg, hw, aO, HEv3⟩ := aW.out.allocd (.cells (Array.replicate 32 (Value.int .u8 0)) 43 (0, 0))
   go_simp
   try rw [hg]
   generalize hq : World.alloc v2 _ = q
   obtain rfl : v3 = q := hw.symm.trans hq
   clear hg hw hq
   refine hK.out _ _ aO.out.b fun _ => ?_; clear hK K
   refine zr 6 rfl (fun K hK => ?_)
   obtain ⟨ga, v4, hg, hw, aI, HEv4⟩ := aO.out.allocd (.cells (Array.replicate 32 (Value.int .u8 0)) 43 (0, 0))
   go_simp
   try rw [hg]
   generalize hq : World.alloc v3 _ = q
   obtain rfl : v4 = q := hw.symm.trans hq
   clear hg hw hq
   refine hK.out _ _ aI.out.b fun _ => ?_; clear hK K
   refine zr 8 rfl (fun K hK => ?_)
   rw [if_pos (by rfl)]
   refine wp_store_row 43 _ _ rfl ga (dg A) rfl rfl 43 _ (aI.out.at 0 rfl) (bP _) (by rw [bY]; rfl) (cZ _) ?_
   generalize hw : World.setRow v4 _ _ = v5
   have aE := zh (aI.out.set 0 rfl (dg A))
   rw [hw] at aE
   clear hw
   refine hK.out _ _ aE.out.b fun _ => ?_; clear hK K
   refine zr 9 rfl (fun K hK => ?_)
   rw [if_pos (by rfl)]
   refine wp_store_row 43 _ _ rfl gb (dg C) rfl rfl 43 _ (aE.out.at 1 rfl) (bP _) (by rw [bY]; rfl) (cZ _) ?_
   generalize hw : World.setRow v5 _ _ = v6
   have aF := zh (aE.out.set 1 rfl (dg C))
   rw [hw] at aF
   clear hw
   refine hK.out _ _ aF.out.b fun _ => ?_; clear hK K
   refine zd ?_ _
   go_wp2_with fail
   go_meet
   exact ⟨ga, gb, rfl, rfl, aF.out.at 0 rfl, aF.out.at 1 rfl, aF.out.b⟩
   obtain ⟨ga, v2, hg, hw, aW, iH⟩ := cW.out.allocd (.cells (Array.replicate 32 (Value.int .u8 0)) 43 (0, 0))
   go_simp
   try rw [hg]
   generalize hq : World.alloc v1 _ = q
   obtain rfl : v2 = q := hw.symm.trans hq
   clear hg hw hq
   refine hK.out _ _ aW.out.b fun _ => ?_; clear hK K
   refine zs 5 7 rfl (fun K hK => ?_) rfl (fun K hK => ?_)
   go_simp
   with_reducible refine (HCY.out _ (aW.out).b).mono ?_
   rintro e v3 ⟨rfl, hb⟩
   have aO := zh (aW.out.call hb)
   clear hb
   go_wp2_with fail
   refine hK.out _ _ aO.out.b fun _ => ?_; clear hK K
   refine zr 7 rfl (fun K hK => ?_)
   obtain ⟨gb, v4, hg, hw, aI, HEv4⟩ := aO.out.allocd (.cells (Array.replicate 32 (Value.int .u8 0)) 43 (0, 0))
   go_simp
   try rw [hg]
   generalize hq : World.alloc v3 _ = q
   obtain rfl : v4 = q := hw.symm.trans hq
   clear hg hw hq
   refine hK.out _ _ aI.out.b fun _ => ?_; clear hK K
   refine zr 8 rfl (fun K hK => ?_)
   rw [if_pos (by rfl)]
   refine wp_store_row 43 _ _ rfl ga (dg A) rfl rfl 43 _ (aI.out.at 1 rfl) (bP _) (by rw [bY]; rfl) (cZ _) ?_
   generalize hw : World.setRow v4 _ _ = v5
   have aE := zh (aI.out.set 1 rfl (dg A))
   rw [hw] at aE
   clear hw
   refine hK.out _ _ aE.out.b fun _ => ?_; clear hK K
   refine zr 9 rfl (fun K hK => ?_)
   rw [if_pos (by rfl)]
   refine wp_store_row 43 _ _ rfl gb (dg C) rfl rfl 43 _ (aE.out.at 0 rfl) (bP _) (by rw [bY]; rfl) (cZ _) ?_
   generalize hw : World.setRow v5 _ _ = v6
   have aF := zh (aE.out.set 0 rfl (dg C))
   rw [hw] at aF
   clear hw
   refine hK.out _ _ aF.out.b fun _ => ?_; clear hK K
   refine zd ?_ _
   go_wp2_with fail
   go_meet
   exact ⟨ga, gb, rfl, rfl, aF.out.at 1 rfl, aF.out.at 0 rfl, aF.out.b⟩
   obtain ⟨gb, v3, hg, hw, aO, HEv3⟩ := aW.out.allocd (.cells (Array.replicate 32 (Value.int .u8 0)) 43 (0, 0))
   go_simp
   try rw [hg]
   generalize hq : World.alloc v2 _ = q
   obtain rfl : v3 = q := hw.symm.trans hq
   clear hg hw hq
   refine hK.out _ _ aO.out.b fun _ => ?_; clear hK K
   refine zr 5 rfl (fun K hK => ?_)
   go_simp
   with_reducible refine (HCY.out _ (aO.out).b).mono ?_
   rintro e v4 ⟨rfl, hb⟩
   have aI := zh (aO.out.call hb)
   clear hb
   go_wp2_with fail
   refine hK.out _ _ aI.out.b fun _ => ?_; clear hK K
   refine zr 8 rfl (fun K hK => ?_)
   rw [if_pos (by rfl)]
   refine wp_store_row 43 _ _ rfl ga (dg A) rfl rfl 43 _ (aI.out.at 1 rfl) (bP _) (by rw [bY]; rfl) (cZ _) ?_
   generalize hw : World.setRow v4 _ _ = v5
   have aE := zh (aI.out.set 1 rfl (dg A))
   rw [hw] at aE
   clear hw
   refine hK.out _ _ aE.out.b fun _ => ?_; clear hK K
   refine zr 9 rfl (fun K hK => ?_)
   rw [if_pos (by rfl)]
   refine wp_store_row 43 _ _ rfl gb (dg C) rfl rfl 43 _ (aE.out.at 0 rfl) (bP _) (by rw [bY]; rfl) (cZ _) ?_
   generalize hw : World.setRow v5 _ _ = v6
   have aF := zh (aE.out.set 0 rfl (dg C))
   rw [hw] at aF
   clear hw
   refine hK.out _ _ aF.out.b fun _ => ?_; clear hK K
   refine zd ?_ _
   go_wp2_with fail
   go_meet
   exact ⟨ga, gb, rfl, rfl, aF.out.at 1 rfl, aF.out.at 0 rfl, aF.out.b⟩
   obtain ⟨gb, v2, hg, hw, aW, iH⟩ := cW.out.allocd (.cells (Array.replicate 32 (Value.int .u8 0)) 43 (0, 0))
   go_simp
   try rw [hg]
   generalize hq : World.alloc v1 _ = q
   obtain rfl : v2 = q := hw.symm.trans hq
   clear hg hw hq
   refine hK.out _ _ aW.out.b fun _ => ?_; clear hK K
   refine zs 5 6 rfl (fun K hK => ?_) rfl (fun K hK => ?_)
   go_simp
   with_reducible refine (HCY.out _ (aW.out).b).mono ?_
   rintro e v3 ⟨rfl, hb⟩
   have aO := zh (aW.out.call hb)
   clear hb
   go_wp2_with fail
   refine hK.out _ _ aO.out.b fun _ => ?_; clear hK K
   refine zr 6 rfl (fun K hK => ?_)
   obtain ⟨ga, v4, hg, hw, aI, HEv4⟩ := aO.out.allocd (.cells (Array.replicate 32 (Value.int .u8 0)) 43 (0, 0))
   go_simp
   try rw [hg]
   generalize hq : World.alloc v3 _ = q
   obtain rfl : v4 = q := hw.symm.trans hq
   clear hg hw hq
   refine hK.out _ _ aI.out.b fun _ => ?_; clear hK K
   refine zr 8 rfl (fun K hK => ?_)
   rw [if_pos (by rfl)]
   refine wp_store_row 43 _ _ rfl ga (dg A) rfl rfl 43 _ (aI.out.at 0 rfl) (bP _) (by rw [bY]; rfl) (cZ _) ?_
   generalize hw : World.setRow v4 _ _ = v5
   have aE := zh (aI.out.set 0 rfl (dg A))
   rw [hw] at aE
   clear hw
   refine hK.out _ _ aE.out.b fun _ => ?_; clear hK K
   refine zr 9 rfl (fun K hK => ?_)
   rw [if_pos (by rfl)]
   refine wp_store_row 43 _ _ rfl gb (dg C) rfl rfl 43 _ (aE.out.at 1 rfl) (bP _) (by rw [bY]; rfl) (cZ _) ?_
   generalize hw : World.setRow v5 _ _ = v6
   have aF := zh (aE.out.set 1 rfl (dg C))
   rw [hw] at aF
   clear hw
   refine hK.out _ _ aF.out.b fun _ => ?_; clear hK K
   refine zd ?_ _
   go_wp2_with fail
   go_meet
   exact ⟨ga, gb, rfl, rfl, aF.out.at 0 rfl, aF.out.at 1 rfl, aF.out.b⟩
   obtain ⟨ga, v3, hg, hw, aO, HEv3⟩ := aW.out.allocd (.cells (Array.replicate 32 (Value.int .u8 0)) 43 (0, 0))
   go_simp
   try rw [hg]
   generalize hq : World.alloc v2 _ = q
   obtain rfl : v3 = q := hw.symm.trans hq
   clear hg hw hq
   refine hK.out _ _ aO.out.b fun _ => ?_; clear hK K
   refine zr 5 rfl (fun K hK => ?_)
   go_simp
   with_reducible refine (HCY.out _ (aO.out).b).mono ?_
   rintro e v4 ⟨rfl, hb⟩
   have aI := zh (aO.out.call hb)
   clear hb
   go_wp2_with fail
   refine hK.out _ _ aI.out.b fun _ => ?_; clear hK K
   refine zr 8 rfl (fun K hK => ?_)
   rw [if_pos (by rfl)]
   refine wp_store_row 43 _ _ rfl ga (dg A) rfl rfl 43 _ (aI.out.at 0 rfl) (bP _) (by rw [bY]; rfl) (cZ _) ?_
   generalize hw : World.setRow v4 _ _ = v5
   have aE := zh (aI.out.set 0 rfl (dg A))
   rw [hw] at aE
   clear hw
   refine hK.out _ _ aE.out.b fun _ => ?_; clear hK K
   refine zr 9 rfl (fun K hK => ?_)
   rw [if_pos (by rfl)]
   refine wp_store_row 43 _ _ rfl gb (dg C) rfl rfl 43 _ (aE.out.at 1 rfl) (bP _) (by rw [bY]; rfl) (cZ _) ?_
   generalize hw : World.setRow v5 _ _ = v6
   have aF := zh (aE.out.set 1 rfl (dg C))
   rw [hw] at aF
   clear hw
   refine hK.out _ _ aF.out.b fun _ => ?_; clear hK K
   refine zd ?_ _
   go_wp2_with fail
   go_meet
   exact ⟨ga, gb, rfl, rfl, aF.out.at 0 rfl, aF.out.at 1 rfl, aF.out.b⟩
   obtain ⟨ga, v1, hg, hw, cW, oG⟩ := AO.out.allocdD (.cells (Array.replicate 32 (Value.int .u8 0)) 43 (0, 0))
   go_simp
   try rw [hg]
   generalize hq : World.drew (World.alloc w0 _) = q
   obtain rfl : v1 = q := hw.symm.trans hq
   clear hg hw hq
   refine hK.out _ _ cW.out.b fun _ => ?_; clear hK K
   refine zs 2 7 rfl (fun K hK => ?_) rfl (fun K hK => ?_)
   go_simp
   with_reducible refine (HCX.out _ (cW.out).b).mono ?_
   rintro e v2 ⟨rfl, hb⟩
   have aW := zh (cW.out.call hb)
   clear hb
   go_wp2_with fail
   refine hK.out _ _ aW.out.b fun _ => ?_; clear hK K
   refine zs 5 7 rfl (fun K hK => ?_) rfl (fun K hK => ?_)
   go_simp
   with_reducible refine (HCY.out _ (aW.out).b).mono ?_
   rintro e v3 ⟨rfl, hb⟩
   have aO := zh (aW.out.call hb)
   clear hb
   go_wp2_with fail
   refine hK.out _ _ aO.out.b fun _ => ?_; clear hK K
   refine zr 7 rfl (fun K hK => ?_)
   obtain ⟨gb, v4, hg, hw, aI, HEv4⟩ := aO.out.allocd (.cells (Array.replicate 32 (Value.int .u8 0)) 43 (0, 0))
   go_simp
   try rw [hg]
   generalize hq : World.alloc v3 _ = q
   obtain rfl : v4 = q := hw.symm.trans hq
   clear hg hw hq
   refine hK.out _ _ aI.out.b fun _ => ?_; clear hK K
   refine zr 8 rfl (fun K hK => ?_)
   rw [if_pos (by rfl)]
   refine wp_store_row 43 _ _ rfl ga (dg A) rfl rfl 43 _ (aI.out.at 1 rfl) (bP _) (by rw [bY]; rfl) (cZ _) ?_
   generalize hw : World.setRow v4 _ _ = v5
   have aE := zh (aI.out.set 1 rfl (dg A))
   rw [hw] at aE
   clear hw
   refine hK.out _ _ aE.out.b fun _ => ?_; clear hK K
   refine zr 9 rfl (fun K hK => ?_)
   rw [if_pos (by rfl)]
   refine wp_store_row 43 _ _ rfl gb (dg C) rfl rfl 43 _ (aE.out.at 0 rfl) (bP _) (by rw [bY]; rfl) (cZ _) ?_
   generalize hw : World.setRow v5 _ _ = v6
   have aF := zh (aE.out.set 0 rfl (dg C))
   rw [hw] at aF
   clear hw
   refine hK.out _ _ aF.out.b fun _ => ?_; clear hK K
   refine zd ?_ _
   go_wp2_with fail
   go_meet
   exact ⟨ga, gb, rfl, rfl, aF.out.at 1 rfl, aF.out.at 0 rfl, aF.out.b⟩
   obtain ⟨gb, v3, hg, hw, aO, HEv3⟩ := aW.out.allocd (.cells (Array.replicate 32 (Value.int .u8 0)) 43 (0, 0))
   go_simp
   try rw [hg]
   generalize hq : World.alloc v2 _ = q
   obtain rfl : v3 = q := hw.symm.trans hq
   clear hg hw hq
   refine hK.out _ _ aO.out.b fun _ => ?_; clear hK K
   refine zr 5 rfl (fun K hK => ?_)
   go_simp
   with_reducible refine (HCY.out _ (aO.out).b).mono ?_
   rintro e v4 ⟨rfl, hb⟩
   have aI := zh (aO.out.call hb)
   clear hb
   go_wp2_with fail
   refine hK.out _ _ aI.out.b fun _ => ?_; clear hK K
   refine zr 8 rfl (fun K hK => ?_)
   rw [if_pos (by rfl)]
   refine wp_store_row 43 _ _ rfl ga (dg A) rfl rfl 43 _ (aI.out.at 1 rfl) (bP _) (by rw [bY]; rfl) (cZ _) ?_
   generalize hw : World.setRow v4 _ _ = v5
   have aE := zh (aI.out.set 1 rfl (dg A))
   rw [hw] at aE
   clear hw
   refine hK.out _ _ aE.out.b fun _ => ?_; clear hK K
   refine zr 9 rfl (fun K hK => ?_)
   rw [if_pos (by rfl)]
   refine wp_store_row 43 _ _ rfl gb (dg C) rfl rfl 43 _ (aE.out.at 0 rfl) (bP _) (by rw [bY]; rfl) (cZ _) ?_
   generalize hw : World.setRow v5 _ _ = v6
   have aF := zh (aE.out.set 0 rfl (dg C))
   rw [hw] at aF
   clear hw
   refine hK.out _ _ aF.out.b fun _ => ?_; clear hK K
   refine zd ?_ _
   go_wp2_with fail
   go_meet
   exact ⟨ga, gb, rfl, rfl, aF.out.at 1 rfl, aF.out.at 0 rfl, aF.out.b⟩
   obtain ⟨gb, v2, hg, hw, aW, iH⟩ := cW.out.allocd (.cells (Array.replicate 32 (Value.int .u8 0)) 43 (0, 0))
   go_simp
   try rw [hg]
   generalize hq : World.alloc v1 _ = q
   obtain rfl : v2 = q := hw.symm.trans hq
   clear hg hw hq
   refine hK.out _ _ aW.out.b fun _ => ?_; clear hK K
   refine zr 2 rfl (fun K hK => ?_)
   go_simp
   with_reducible refine (HCX.out _ (aW.out).b).mono ?_
   rintro e v3 ⟨rfl, hb⟩
   have aO := zh (aW.out.call hb)
   clear hb
   go_wp2_with fail
   refine hK.out _ _ aO.out.b fun _ => ?_; clear hK K
   refine zr 5 rfl (fun K hK => ?_)
   go_simp
   with_reducible refine (HCY.out _ (aO.out).b).mono ?_
   rintro e v4 ⟨rfl, hb⟩
   have aI := zh (aO.out.call hb)
   clear hb
   go_wp2_with fail
   refine hK.out _ _ aI.out.b fun _ => ?_; clear hK K
   refine zr 8 rfl (fun K hK => ?_)
   rw [if_pos (by rfl)]
   refine wp_store_row 43 _ _ rfl ga (dg A) rfl rfl 43 _ (aI.out.at 1 rfl) (bP _) (by rw [bY]; rfl) (cZ _) ?_
   generalize hw : World.setRow v4 _ _ = v5
   have aE := zh (aI.out.set 1 rfl (dg A))
   rw [hw] at aE
   clear hw
   refine hK.out _ _ aE.out.b fun _ => ?_; clear hK K
   refine zr 9 rfl (fun K hK => ?_)
   rw [if_pos (by rfl)]
   refine wp_store_row 43 _ _ rfl gb (dg C) rfl rfl 43 _ (aE.out.at 0 rfl) (bP _) (by rw [bY]; rfl) (cZ _) ?_
   generalize hw : World.setRow v5 _ _ = v6
   have aF := zh (aE.out.set 0 rfl (dg C))
   rw [hw] at aF
   clear hw
   refine hK.out _ _ aF.out.b fun _ => ?_; clear hK K
   refine zd ?_ _
   go_wp2_with fail
   go_meet
   exact ⟨ga, gb, rfl, rfl, aF.out.at 1 rfl, aF.out.at 0 rfl, aF.out.b⟩
   obtain ⟨gb, v1, hg, hw, cW, oG⟩ := AO.out.allocdD (.cells (Array.replicate 32 (Value.int .u8 0)) 43 (0, 0))
   go_simp
   try rw [hg]
   generalize hq : World.drew (World.alloc w0 _) = q
   obtain rfl : v1 = q := hw.symm.trans hq
   clear hg hw hq
   refine hK.out _ _ cW.out.b fun _ => ?_; clear hK K
   refine zs 2 6 rfl (fun K hK => ?_) rfl (fun K hK => ?_)
   go_simp
   with_reducible refine (HCX.out _ (cW.out).b).mono ?_
   rintro e v2 ⟨rfl, hb⟩
   have aW := zh (cW.out.call hb)
   clear hb
   go_wp2_with fail
   refine hK.out _ _ aW.out.b fun _ => ?_; clear hK K
   refine zs 5 6 rfl (fun K hK => ?_) rfl (fun K hK => ?_)
   go_simp
   with_reducible refine (HCY.out _ (aW.out).b).mono ?_
   rintro e v3 ⟨rfl, hb⟩
   have aO := zh (aW.out.call hb)
   clear hb
   go_wp2_with fail
   refine hK.out _ _ aO.out.b fun _ => ?_; clear hK K
   refine zr 6 rfl (fun K hK => ?_)
   obtain ⟨ga, v4, hg, hw, aI, HEv4⟩ := aO.out.allocd (.cells (Array.replicate 32 (Value.int .u8 0)) 43 (0, 0))
   go_simp
   try rw [hg]
   generalize hq : World.alloc v3 _ = q
   obtain rfl : v4 = q := hw.symm.trans hq
   clear hg hw hq
   refine hK.out _ _ aI.out.b fun _ => ?_; clear hK K
   refine zr 8 rfl (fun K hK => ?_)
   rw [if_pos (by rfl)]
   refine wp_store_row 43 _ _ rfl ga (dg A) rfl rfl 43 _ (aI.out.at 0 rfl) (bP _) (by rw [bY]; rfl) (cZ _) ?_
   generalize hw : World.setRow v4 _ _ = v5
   have aE := zh (aI.out.set 0 rfl (dg A))
   rw [hw] at aE
   clear hw
   refine hK.out _ _ aE.out.b fun _ => ?_; clear hK K
   refine zr 9 rfl (fun K hK => ?_)
   rw [if_pos (by rfl)]
   refine wp_store_row 43 _ _ rfl gb (dg C) rfl rfl 43 _ (aE.out.at 1 rfl) (bP _) (by rw [bY]; rfl) (cZ _) ?_
   generalize hw : World.setRow v5 _ _ = v6
   have aF := zh (aE.out.set 1 rfl (dg C))
   rw [hw] at aF
   clear hw
   refine hK.out _ _ aF.out.b fun _ => ?_; clear hK K
   refine zd ?_ _
   go_wp2_with fail
   go_meet
   exact ⟨ga, gb, rfl, rfl, aF.out.at 0 rfl, aF.out.at 1 rfl, aF.out.b⟩
   obtain ⟨ga, v3, hg, hw, aO, HEv3⟩ := aW.out.allocd (.cells (Array.replicate 32 (Value.int .u8 0)) 43 (0, 0))
   go_simp
   try rw [hg]
   generalize hq : World.alloc v2 _ = q
   obtain rfl : v3 = q := hw.symm.trans hq
   clear hg hw hq
   refine hK.out _ _ aO.out.b fun _ => ?_; clear hK K
   refine zr 5 rfl (fun K hK => ?_)
   go_simp
   with_reducible refine (HCY.out _ (aO.out).b).mono ?_
   rintro e v4 ⟨rfl, hb⟩
   have aI := zh (aO.out.call hb)
   clear hb
   go_wp2_with fail
   refine hK.out _ _ aI.out.b fun _ => ?_; clear hK K
   refine zr 8 rfl (fun K hK => ?_)
   rw [if_pos (by rfl)]
   refine wp_store_row 43 _ _ rfl ga (dg A) rfl rfl 43 _ (aI.out.at 0 rfl) (bP _) (by rw [bY]; rfl) (cZ _) ?_
   generalize hw : World.setRow v4 _ _ = v5
   have aE := zh (aI.out.set 0 rfl (dg A))
   rw [hw] at aE
   clear hw
   refine hK.out _ _ aE.out.b fun _ => ?_; clear hK K
   refine zr 9 rfl (fun K hK => ?_)
   rw [if_pos (by rfl)]
   refine wp_store_row 43 _ _ rfl gb (dg C) rfl rfl 43 _ (aE.out.at 1 rfl) (bP _) (by rw [bY]; rfl) (cZ _) ?_
   generalize hw : World.setRow v5 _ _ = v6
   have aF := zh (aE.out.set 1 rfl (dg C))
   rw [hw] at aF
   clear hw
   refine hK.out _ _ aF.out.b fun _ => ?_; clear hK K
   refine zd ?_ _
   go_wp2_with fail
   go_meet
   exact ⟨ga, gb, rfl, rfl, aF.out.at 0 rfl, aF.out.at 1 rfl, aF.out.b⟩
   obtain ⟨ga, v2, hg, hw, aW, iH⟩ := cW.out.allocd (.cells (Array.replicate 32 (Value.int .u8 0)) 43 (0, 0))
   go_simp
   try rw [hg]
   generalize hq : World.alloc v1 _ = q
   obtain rfl : v2 = q := hw.symm.trans hq
   clear hg hw hq
   refine hK.out _ _ aW.out.b fun _ => ?_; clear hK K
   refine zr 2 rfl (fun K hK => ?_)
   go_simp
   with_reducible refine (HCX.out _ (aW.out).b).mono ?_
   rintro e v3 ⟨rfl, hb⟩
   have aO := zh (aW.out.call hb)
   clear hb
   go_wp2_with fail
   refine hK.out _ _ aO.out.b fun _ => ?_; clear hK K
   refine zr 5 rfl (fun K hK => ?_)
   go_simp
   with_reducible refine (HCY.out _ (aO.out).b).mono ?_
   rintro e v4 ⟨rfl, hb⟩
   have aI := zh (aO.out.call hb)
   clear hb
   go_wp2_with fail
   refine hK.out _ _ aI.out.b fun _ => ?_; clear hK K
   refine zr 8 rfl (fun K hK => ?_)
   rw [if_pos (by rfl)]
   refine wp_store_row 43 _ _ rfl ga (dg A) rfl rfl 43 _ (aI.out.at 0 rfl) (bP _) (by rw [bY]; rfl) (cZ _) ?_
   generalize hw : World.setRow v4 _ _ = v5
   have aE := zh (aI.out.set 0 rfl (dg A))
   rw [hw] at aE
   clear hw
   refine hK.out _ _ aE.out.b fun _ => ?_; clear hK K
   refine zr 9 rfl (fun K hK => ?_)
   rw [if_pos (by rfl)]
   refine wp_store_row 43 _ _ rfl gb (dg C) rfl rfl 43 _ (aE.out.at 1 rfl) (bP _) (by rw [bY]; rfl) (cZ _) ?_
   generalize hw : World.setRow v5 _ _ = v6
   have aF := zh (aE.out.set 1 rfl (dg C))
   rw [hw] at aF
   clear hw
   refine hK.out _ _ aF.out.b fun _ => ?_; clear hK K
   refine zd ?_ _
   go_wp2_with fail
   go_meet
   exact ⟨ga, gb, rfl, rfl, aF.out.at 0 rfl, aF.out.at 1 rfl, aF.out.b⟩
 case rest =>
 obtain ⟨ga, gb, rfl, rfl, HC1⟩ := hcut
 have HBC : Hid (∀ c1 c2, Calls Tryz.prog 93 #[.slice (some ⟨ga, 0, none⟩) 32 c1, .slice (some ⟨gb, 0, none⟩) 32 c2] (World.drew wc) fun e w'' => e = .returned (.int .i64 (AN (aT (sha A).list) (aT (sha C).list))) ∧ World.drew wc = w'') := fun c1 c2 => uR ga 0 32 c1 _ gb 0 32 c2 _ (by simp [aR, St.list_length]) (by simp [aR, St.list_length]) _ (fun i hi => DT (t := 43) HC1.out.1 i (by simp [aR, St.list_length]; exact hi)) (fun i hi => DT (t := 43) HC1.out.2.1 i (by simp [aR, St.list_length]; exact hi))
 have HB : Hid (Below w.heap.size w wc) := HT0.out.b.trans (HC1.out.2.2.mono (Nat.le_of_lt HLT.out.1))
 clear HC1 HX0 HY0 HCX HCY HT0
 go_wp2_with fail
 go_region_with (go_at_call 93; (with_reducible refine (HBC.out _ _).mono ?_); rintro e w' ⟨rfl, rfl⟩)
 all_goals
  go_wp2_with fail
  go_ret
  exact ⟨rfl, HB.out.drew⟩
end Go.Proofs.YtcligodahogpkaaGreatDoor
